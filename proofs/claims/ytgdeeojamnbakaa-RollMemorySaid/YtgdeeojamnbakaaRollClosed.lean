/- The walk of RollClosed. -/
import Derived.Test.YtgdeeojamnbakaaRollKeep
namespace Go.Proofs.Ytgdeeojamnbakaa
open Go.RowKit

def Good (es : List Ent) : Prop := ∀ e ∈ es, famOk e.fam = true

theorem Good.entered {es es' : List Ent} {cl : Nat → Bool} {f : Int} {nm : ByteArray} {sz n : Int} (h : Good es)
    (hd : (why es cl f nm sz = 0 ∧ n = cnt f es + 1 ∧ es' = es ++ [⟨f, cnt f es + 1, nm, sz⟩]) ∨ (why es cl f nm sz ≠ 0 ∧ n = 0 ∧ es' = es)) : Good es' := by
  rcases hd with ⟨hw, _, rfl⟩ | ⟨_, _, rfl⟩
  · intro e he
    rcases List.mem_append.1 he with he | he
    · exact h e he
    · simp at he
      subst he
      show famOk f = true
      cases hf : famOk f
      · simp [why, hf] at hw
      · rfl
  · exact h

theorem findN_out {es : List Ent} (h : Good es) {f : Int} (hf : famOk f = false) (nm : ByteArray) : findN f nm es = 0 := by
  induction es with
  | nil => rfl
  | cons e r ih =>
    have he := h e (by simp)
    have hne : hits f nm e = false := hits_far (by rintro rfl; rw [he] at hf; cases hf)
    simp only [findN, hne]
    exact ih (fun x hx => h x (by simp [hx]))
theorem cnt_out {es : List Ent} (h : Good es) {f : Int} (hf : famOk f = false) : cnt f es = 0 := by
  induction es with
  | nil => rfl
  | cons e r ih =>
    have he := h e (by simp)
    have hne : ¬ e.fam = f := by rintro rfl; rw [he] at hf; cases hf
    simp only [cnt, hne, if_false, Nat.zero_add]
    exact ih (fun x hx => h x (by simp [hx]))
theorem findAt_out {es : List Ent} (h : Good es) {f : Int} (hf : famOk f = false) (n : Int) : findAt f n es = none := by
  induction es with
  | nil => rfl
  | cons e r ih =>
    have he := h e (by simp)
    have hne : isAt f n e = false := isAt_far (by rintro rfl; rw [he] at hf; cases hf)
    simp only [findAt, hne]
    exact ih (fun x hx => h x (by simp [hx]))

theorem shut_shut (cl : Nat → Bool) (f : Int) : shutF (shutF cl f) f = shutF cl f := by
  funext j
  simp only [shutF]
  split <;> rfl

theorem why_shut (es : List Ent) (cl : Nat → Bool) (f : Int) (nm : ByteArray) (sz : Int) (hf : famOk f = true) : why es (shutF cl f) f nm sz = 1 ∨ why es (shutF cl f) f nm sz = 10 := by
  have h1 : 1 ≤ f := by simp [famOk] at hf; omega
  have h2 : shutF cl f f.toNat = true := by simp only [shutF]; rw [if_pos ⟨by omega, hf⟩]
  by_cases h : (famOk f && nameOk nm && decide (0 ≤ sz)) = false
  · exact .inl (by unfold why; rw [if_pos h])
  · exact .inr (by unfold why; rw [if_neg h, if_pos h2])
theorem why_far (es : List Ent) (cl : Nat → Bool) (f : Int) (nm : ByteArray) (sz : Int) (hf : famOk f = false) : why es cl f nm sz = 1 := by simp [why, hf]
theorem why_z (es : List Ent) (cl : Nat → Bool) (f : Int) (hf : famOk f = true) : why es (shutF cl f) f nmZ 0 = 10 := by
  have h1 : 1 ≤ f := by simp [famOk] at hf; omega
  have h2 : shutF cl f f.toNat = true := by simp only [shutF]; rw [if_pos ⟨by omega, hf⟩]
  have h3 : nameOk nmZ = true := by decide
  simp [why, hf, h2, h3]

theorem open_shut (cl : Nat → Bool) (f : Int) (k : Nat) : openF (shutF cl f) k = (openF cl k && decide ((k : Int) ≠ f)) := by
  simp only [openF, shutF, Int.toNat_natCast]
  by_cases hkf : (k : Int) = f
  · subst hkf
    cases h : famOk (k : Int) <;> simp
  · rw [if_neg (fun h => hkf h.1)]
    simp [hkf]

/-- The seven flags, as they are laid. -/
def flags (cl : Nat → Bool) (n : Nat) : Array Value := ((List.range 7).map fun i => Value.bool (if i < n then openF cl i else false)).toArray

theorem flags_at (cl : Nat → Bool) (n k : Nat) (hk : k < 7) : ∃ b, (flags cl n)[k]? = some (.bool b) := by
  refine ⟨if k < n then openF cl k else false, ?_⟩
  simp [flags, hk]

theorem flags_set (cl : Nat → Bool) (k : Nat) (hk : k < 7) : (flags cl k).setIfInBounds k (.bool (openF cl k)) = flags cl (k + 1) := by
  match k, hk with
  | 0, _ => rfl
  | 1, _ => rfl
  | 2, _ => rfl
  | 3, _ => rfl
  | 4, _ => rfl
  | 5, _ => rfl
  | 6, _ => rfl

theorem flags_get (cl : Nat → Bool) (k : Nat) (hk : k < 7) : (flags cl 7)[k]? = some (.bool (openF cl k)) := by
  simp [flags, hk]

def ClArg (ao : Option Addr) (n cap : Nat) (f : Int) (nm : ByteArray) (num sz : Int) : Obj :=
  .cells #[.slice ao n cap, .int .i64 f, .string nm, .int .i64 num, .int .i64 sz] 50 (0, 0)

def ClCase (es : List Ent) (cl : Nat → Bool) (f : Int) (nm : ByteArray) (sz : Int) (y : Bool) : Prop :=
  (1 ≤ f ∧ f ≤ 5 ∧ why es (shutF cl f) f nm sz = 1 ∧ why es (shutF cl f) f nmZ 0 = 10) ∨
  (1 ≤ f ∧ f ≤ 5 ∧ why es (shutF cl f) f nm sz = 10 ∧ why es (shutF cl f) f nmZ 0 = 10) ∨
  (f < 1 ∧ why es (shutF cl f) f nm sz = 1 ∧ why es (shutF cl f) f nmZ 0 = 1 ∧ (findN f nm es != 0) = false ∧ (((cnt f es : Nat) : Int) != 0) = false ∧ y = false) ∨
  (1 ≤ f ∧ 5 < f ∧ why es (shutF cl f) f nm sz = 1 ∧ why es (shutF cl f) f nmZ 0 = 1 ∧ (findN f nm es != 0) = false ∧ (((cnt f es : Nat) : Int) != 0) = false ∧ y = false)

theorem clCase {es : List Ent} {cl : Nat → Bool} {f num : Int} {nm : ByteArray} {sz : Int} {y : Bool} (h : Good es) (hy : (findAt f num es).isSome = y) : ClCase es cl f nm sz y := by
  cases hf : famOk f
  · have h1 : (findN f nm es != 0) = false := by rw [findN_out h hf]; rfl
    have h2 : (((cnt f es : Nat) : Int) != 0) = false := by rw [cnt_out h hf]; rfl
    have h3 : y = false := by rw [← hy, findAt_out h hf]; rfl
    by_cases hlo : f < 1
    · exact .inr (.inr (.inl ⟨hlo, why_far _ _ _ _ _ hf, why_far _ _ _ _ _ hf, h1, h2, h3⟩))
    · have hhi : 5 < f := by simp [famOk] at hf; omega
      exact .inr (.inr (.inr ⟨by omega, hhi, why_far _ _ _ _ _ hf, why_far _ _ _ _ _ hf, h1, h2, h3⟩))
  · have hlo : 1 ≤ f ∧ f ≤ 5 := by simpa [famOk] using hf
    rcases why_shut es cl f nm sz hf with h1 | h1
    · exact .inl ⟨hlo.1, hlo.2, h1, why_z es cl f hf⟩
    · exact .inr (.inl ⟨hlo.1, hlo.2, h1, why_z es cl f hf⟩)

theorem same_at {o : Option Ent} {xf xn zf zn : Int} {xm zm : ByteArray} {xs zs : Int} {y zy : Bool} (h : Hid (o.getD Ent.none = ⟨xf, xn, xm, xs⟩ ∧ o.isSome = y)) (g : Hid (o.getD Ent.none = ⟨zf, zn, zm, zs⟩ ∧ o.isSome = zy)) :
    xf = zf ∧ xn = zn ∧ xm = zm ∧ xs = zs ∧ y = zy := by
  obtain ⟨h1, h2⟩ := h
  obtain ⟨g1, g2⟩ := g
  rw [h1] at g1
  injection g1 with e1 e2 e3 e4
  exact ⟨e1, e2, e3, e4, h2.symm.trans g2⟩

theorem EntCells {w wr : World} {K : List (Nat × Obj)} {p : Nat} {es : List Ent} {cl : Nat → Bool} {b : Nat} {x0 x1 x2 x3 : Value} {t : TypeId}
    (h : Rel w K p es cl wr) (hx : (b, Obj.cells #[x0, x1, x2, x3] t (0, 0)) ∈ K) :
    wr.cell? ⟨b, 0, none⟩ = some x0 ∧ wr.cell? ⟨b, 1, none⟩ = some x1 ∧ wr.cell? ⟨b, 2, none⟩ = some x2 ∧ wr.cell? ⟨b, 3, none⟩ = some x3 := by
  have hk := h.keep hx
  exact ⟨cell_in hk 0 rfl, cell_in hk 1 rfl, cell_in hk 2 rfl, cell_in hk 3 rfl⟩

theorem open_quiet {w : World} {b : Nat} {S : List Nat} {es : List Ent} {cl : Nat → Bool} {n : Nat} (h : Book w b S es cl) (f : Int) {x : Bool} (hx : openF cl f = x) :
    Calls Try.prog 16 #[.pointer (some ⟨b, 0, none⟩), .int .i64 f] (w.drewN n) fun e w' => e = .returned (.bool x) ∧ ∃ m, w' = w.drewN m := by
  refine (open_any (h.below (Below.drewN' w n)) f).mono ?_
  rintro e w' ⟨rfl, rfl⟩
  exact ⟨by rw [hx], n, rfl⟩

theorem ClCells {w wr : World} {K : List (Nat × Obj)} {p : Nat} {es : List Ent} {cl : Nat → Bool} {c n cap : Nat} {ao : Option Addr} {f : Int} {nm : ByteArray} {num sz : Int}
    (h : Rel w K p es cl wr) (hx : (c, ClArg ao n cap f nm num sz) ∈ K) :
    wr.cell? ⟨c, 0, none⟩ = some (.slice ao n cap) ∧ wr.cell? ⟨c, 1, none⟩ = some (.int .i64 f) ∧ wr.cell? ⟨c, 2, none⟩ = some (.string nm) ∧
      wr.cell? ⟨c, 3, none⟩ = some (.int .i64 num) ∧ wr.cell? ⟨c, 4, none⟩ = some (.int .i64 sz) ∧ c < wr.heap.size := by
  have hk := h.keep hx
  exact ⟨cell_in hk 0 rfl, cell_in hk 1 rfl, cell_in hk 2 rfl, cell_in hk 3 rfl, cell_in hk 4 rfl, lt_of_block hk⟩

def ClRun (w : World) (K : List (Nat × Obj)) (p : Nat) (wr : World) : Prop := ∃ es cl, Good es ∧ Rel w K p es cl wr

set_option maxRecDepth 100000 in
set_option maxHeartbeats 8000000 in
theorem closed_any (ao : Option Addr) (cap : Nat) (l : List Rec) (f : Int) (nm : ByteArray) (num sz : Int) (w : World) (hs : Script w ao l) (hn : nm.size ≤ maxLen) :
    Calls Try.prog 6 #[.agg #[.slice ao l.length cap, .int .i64 f, .string nm, .int .i64 num, .int .i64 sz]] w fun e w' => e = .returned (.bool true) ∧ Below w.heap.size w w' := by
  have hl := hs.1
  unfold maxLen at hl
  have HS := Lib.hid hs
  clear hs
  go_enter Try.func6, Try.ntmps6
  go_wp2_with fail
  refine (awake_any _).mono ?_
  rintro e w0 ⟨rfl, hB0⟩
  go_wp2_with fail
  refine (new_any _).mono ?_
  rintro e w1 ⟨rfl, hk1, hB1⟩
  have h1 : Rel w [(w.heap.size, ClArg ao l.length cap f nm num sz)] w0.heap.size [] (fun _ => false) w1 := by
    have hz : w.heap.size + 1 ≤ w0.heap.size := by have := hB0.size; simpa using this
    refine ⟨_, hk1, fun k hk => by simp at hk; omega, fun x hx => ?_, ?_⟩
    · simp at hx
      subst hx
      refine ⟨?_, by simp; omega, Nat.le_refl _⟩
      rw [hB1.block _ (by show w.heap.size < _; omega), hB0.block _ (by simp)]
      exact heap_alloc_new w _
    · exact ((below_alloc w _).trans (hB0.mono (by simp))).trans (hB1.mono (by omega))
  have H1 := Lib.hid h1
  clear h1 hk1 hB1
  obtain ⟨p, hp⟩ : ∃ p, p = w0.heap.size := ⟨_, rfl⟩
  rw [← hp]
  rw [← hp] at H1
  clear hp hB0
  obtain ⟨a0, a1, a2, a3, a4, a5⟩ := ClCells H1.out List.mem_cons_self
  go_wp2_with fail
  clear a0 a1 a2 a3 a4 a5
  go_loopw [4] (fun i wr => ∃ k : Nat, k ≤ l.length ∧ i = .int .i64 k ∧ ClRun w [(w.heap.size, ClArg ao l.length cap f nm num sz)] p wr) (fun i _ => l.length - (intOf i).toNat)
  case atStart => exact ⟨0, Nat.zero_le _, rfl, [], _, fun e he => by simp at he, H1.out⟩
  case round =>
    obtain ⟨k, hk, rfl, es, cl, hgood, hrel⟩ := hrel
    have HG := Lib.hid hgood
    have HR := Lib.hid hrel
    clear hgood hrel
    obtain ⟨a0, a1, a2, a3, a4, a5⟩ := ClCells HR.out List.mem_cons_self
    by_cases hlt : k < l.length
    · obtain ⟨g, off, rfl, hg, h0, h1, h2, h3, h4, hnm⟩ := (HS.out.below HR.out.outer).2 k l[k] (by simp)
      cases hkind : (l[k].kind == 2)
      · go_wp2_with fail
        have HR2 := Lib.hid (HR.out.below (below_alloc _ (.cells #[.int .i64 l[k].kind, .int .i64 l[k].on, .int .i64 l[k].fam, .string l[k].name, .int .i64 l[k].size] 32)))
        obtain ⟨S, hb⟩ := HR2.out.book
        have HBK := Lib.hid hb
        clear hb
        refine (enter_any HBK.out _ _ _ hnm).mono ?_
        rintro e w3 ⟨S', es', n, rfl, hk', ho, hm, hd⟩
        have HR3 := Lib.hid (HR2.out.entered HBK.out hk' ho hm)
        have HG3 := Lib.hid (HG.out.entered hd)
        clear hk' ho hm hd HR2 HBK a0 a1 a2 a3 a4 a5 h0 h1 h2 h3 h4
        go_wp2_with fail
        go_roundw
        case rel => exact ⟨k + 1, by omega, by go_num, es', cl, HG3.out, HR3.out⟩
        case measure => simp [intOf]; omega
      · go_wp2_with fail
        have HR2 := Lib.hid (HR.out.below (below_alloc _ (.cells #[.int .i64 l[k].kind, .int .i64 l[k].on, .int .i64 l[k].fam, .string l[k].name, .int .i64 l[k].size] 32)))
        obtain ⟨S, hb⟩ := HR2.out.book
        have HBK := Lib.hid hb
        clear hb
        refine (close_any HBK.out _).mono ?_
        rintro e w3 ⟨rfl, hk', ho⟩
        have HR3 := Lib.hid (HR2.out.closed HBK.out hk' ho)
        clear hk' ho HR2 HBK a0 a1 a2 a3 a4 a5 h0 h1 h2 h3 h4
        go_wp2_with fail
        go_roundw
        case rel => exact ⟨k + 1, by omega, by go_num, es, _, HG.out, HR3.out⟩
        case measure => simp [intOf]; omega
    · go_wp2_with fail
      obtain ⟨S, hb⟩ := HR.out.book
      refine (all_any hb).mono ?_
      rintro e w3 ⟨va, rfl, hva, hB3⟩
      obtain ⟨K', hKK, hR3, hrow⟩ := HR.out.row hB3 hva
      have HKK := Lib.hid hKK
      have HR3 := Lib.hid hR3
      have HROW := Lib.hid hrow
      clear hb hva hB3 hKK hR3 hrow a0 a1 a2 a3 a4 a5
      go_wp2_with fail
      have hfl : Rel w ((w3.heap.size, .cells (flags cl 0) 51 (0, 0)) :: K') p es cl (w3.alloc (.cells #[.bool false, .bool false, .bool false, .bool false, .bool false, .bool false, .bool false] 51)) := HR3.out.alloc _
      have hnd : ∀ x ∈ K', x.1 ≠ w3.heap.size := fun x hx e => by have := lt_of_block (HR3.out.keep hx); omega
      obtain ⟨d, hd⟩ : ∃ d, d = w3.heap.size := ⟨_, rfl⟩
      rw [← hd] at hfl hnd ⊢
      have HFL := Lib.hid hfl
      have HND := Lib.hid hnd
      clear hd hfl hnd HR3 HR
      go_loopw [8] (fun i wr => ∃ k : Nat, k ≤ 7 ∧ i = .int .i64 k ∧ Hid (Rel w ((d, .cells (flags cl k) 51 (0, 0)) :: K') p es cl wr)) (fun i _ => 7 - (intOf i).toNat)
      case atStart => exact ⟨0, by omega, rfl, HFL⟩
      case round =>
        obtain ⟨k2, hk2, rfl, HL⟩ := hrel
        clear HFL
        by_cases hlt7 : k2 < 7
        · go_wp2_with fail
          obtain ⟨S2, hb2⟩ := HL.out.book
          refine (open_any hb2 _).mono ?_
          rintro e w4 ⟨rfl, rfl⟩
          clear hb2
          obtain ⟨b0, hb0⟩ := flags_at cl k2 k2 hlt7
          have hdk := HL.out.keep (x := (d, .cells (flags cl k2) 51 (0, 0))) (by simp)
          have hc0 := cell_in hdk k2 hb0
          have hf0 : wr.frozen? ⟨d, k2, none⟩ = false := by simp [World.frozen?, hdk]
          have HL3 := Lib.hid (HL.out.store (i := k2) HND.out (.bool (openF cl k2)))
          rw [flags_set cl k2 hlt7] at HL3
          clear hdk hb0
          go_wp2_with fail
          go_roundw
          case rel => exact ⟨k2 + 1, by omega, by go_num, HL3⟩
          case measure => simp [intOf]; omega
        · obtain rfl : k2 = 7 := by omega
          obtain ⟨K2, hK2⟩ : ∃ K2, K2 = (d, Obj.cells (flags cl 7) 51 (0, 0)) :: K' := ⟨_, rfl⟩
          rw [← hK2] at HL
          have hA : (w.heap.size, ClArg ao l.length cap f nm num sz) ∈ K2 := by rw [hK2]; exact List.mem_cons_of_mem _ (HKK.out _ (by simp))
          have hD : (d, Obj.cells (flags cl 7) 51 (0, 0)) ∈ K2 := by rw [hK2]; simp
          have hV : ∀ w2 : World, (∀ x ∈ K2, w2.heap[x.1]? = some x.2) → ∃ B, w2.ownsRow B 40 4 va es.length (flat es) := fun w2 h => ⟨_, HROW.out w2 (fun x hx => h x (by rw [hK2]; exact List.mem_cons_of_mem _ hx))⟩
          have HA := Lib.hid hA
          have HD := Lib.hid hD
          have HV := Lib.hid hV
          clear hK2 hA hD hV HROW HKK HND
          obtain ⟨a0, a1, a2, a3, a4, a5⟩ := ClCells HL.out HA.out
          go_wp2_with fail
          obtain ⟨S2, hb2⟩ := HL.out.book
          refine (find_any hb2 _ _).mono ?_
          rintro e w4 ⟨rfl, hB4⟩
          have HR4 := Lib.hid (HL.out.below hB4)
          clear hb2 hB4 HL a0 a1 a2 a3 a4 a5
          obtain ⟨a0, a1, a2, a3, a4, a5⟩ := ClCells HR4.out HA.out
          go_wp2_with fail
          obtain ⟨S2, hb2⟩ := HR4.out.book
          refine (at_gives hb2 _ _).mono ?_
          rintro e w5 ⟨xf, xn, xm, xs, y, HX, rfl, hB5⟩
          have HR5 := Lib.hid (HR4.out.below hB5)
          clear hb2 hB5 HR4 a0 a1 a2 a3 a4 a5
          obtain ⟨a0, a1, a2, a3, a4, a5⟩ := ClCells HR5.out HA.out
          go_wp2_with fail
          have HR6 := Lib.hid (HR5.out.alloc (.cells #[.int .i64 xf, .int .i64 xn, .string xm, .int .i64 xs] 40))
          clear HR5 a0 a1 a2 a3 a4 a5
          obtain ⟨bx, hbx⟩ : ∃ bx, bx = w5.heap.size := ⟨_, rfl⟩
          obtain ⟨w6, hw6⟩ : ∃ w6, w6 = w5.alloc (.cells #[.int .i64 xf, .int .i64 xn, .string xm, .int .i64 xs] 40) := ⟨_, rfl⟩
          rw [← hw6, ← hbx] at HR6
          rw [← hw6, ← hbx]
          clear hw6 hbx
          obtain ⟨K3, hK3⟩ : ∃ K3, K3 = (bx, Obj.cells #[.int .i64 xf, .int .i64 xn, .string xm, .int .i64 xs] 40 (0, 0)) :: K2 := ⟨_, rfl⟩
          rw [← hK3] at HR6
          have HA3 := Lib.hid (show (w.heap.size, ClArg ao l.length cap f nm num sz) ∈ K3 by rw [hK3]; exact List.mem_cons_of_mem _ HA.out)
          have HD3 := Lib.hid (show (d, Obj.cells (flags cl 7) 51 (0, 0)) ∈ K3 by rw [hK3]; exact List.mem_cons_of_mem _ HD.out)
          have HX3 := Lib.hid (show (bx, Obj.cells #[.int .i64 xf, .int .i64 xn, .string xm, .int .i64 xs] 40 (0, 0)) ∈ K3 by rw [hK3]; exact List.mem_cons_self)
          have HV3 := Lib.hid (show ∀ w2 : World, (∀ x ∈ K3, w2.heap[x.1]? = some x.2) → ∃ B, w2.ownsRow B 40 4 va es.length (flat es) from fun w2 h => HV.out w2 (fun x hx => h x (by rw [hK3]; exact List.mem_cons_of_mem _ hx)))
          clear hK3 HA HD HV
          obtain ⟨S6, hb6⟩ := HR6.out.book
          refine (count_any hb6 _).mono ?_
          rintro e w7 ⟨rfl, hB7⟩
          have HR7 := Lib.hid (HR6.out.below hB7)
          clear hb6 hB7 HR6
          obtain ⟨a0, a1, a2, a3, a4, a5⟩ := ClCells HR7.out HA3.out
          go_wp2_with fail
          clear a0 a1 a2 a3 a4 a5
          obtain ⟨S7, hb7⟩ := HR7.out.book
          refine (close_any hb7 _).mono ?_
          rintro e w8 ⟨rfl, hk8, ho8⟩
          have HR8 := Lib.hid (HR7.out.closed hb7 hk8 ho8)
          clear hb7 hk8 ho8 HR7
          obtain ⟨a0, a1, a2, a3, a4, a5⟩ := ClCells HR8.out HA3.out
          go_wp2_with fail
          clear a0 a1 a2 a3 a4 a5
          obtain ⟨S8, hb8⟩ := HR8.out.book
          refine (close_any hb8 _).mono ?_
          rintro e w9 ⟨rfl, hk9, ho9⟩
          have HR9 := Lib.hid (HR8.out.closed hb8 hk9 ho9)
          rw [shut_shut] at HR9
          clear hb8 hk9 ho9 HR8
          obtain ⟨a0, a1, a2, a3, a4, a5⟩ := ClCells HR9.out HA3.out
          have hcase : ClCase es cl f nm sz y := clCase HG.out HX.out.2
          rcases hcase with ⟨hlo, hhi, hwy, hwz⟩ | ⟨hlo, hhi, hwy, hwz⟩ | ⟨hlo, hwy, hwz, hfz, hcz, rfl⟩ | ⟨hlo, hhi, hwy, hwz, hfz, hcz, rfl⟩
          all_goals
            have HWY := Lib.hid hwy
            have HWZ := Lib.hid hwz
            clear hwy hwz
            go_wp2_with fail
            clear a0 a1 a2 a3 a4 a5
            obtain ⟨S9, hb9⟩ := HR9.out.book
            refine (enter_refused hb9 f nm sz hn _ HWY.out (by decide)).mono ?_
            rintro e w10 ⟨S10, rfl, hk10, ho10, hm10⟩
            have HR10 := Lib.hid (HR9.out.entered hb9 hk10 ho10 hm10)
            clear hb9 hk10 ho10 hm10 HR9
            obtain ⟨a0, a1, a2, a3, a4, a5⟩ := ClCells HR10.out HA3.out
            go_wp2_with fail
            clear a0 a1 a2 a3 a4 a5
            obtain ⟨S10, hb10⟩ := HR10.out.book
            refine (enter_refused hb10 f nmZ 0 (by decide) _ HWZ.out (by decide)).mono ?_
            rintro e w11 ⟨S11, rfl, hk11, ho11, hm11⟩
            have HR11 := Lib.hid (HR10.out.entered hb10 hk11 ho11 hm11)
            clear hb10 hk11 ho11 hm11 HR10
            obtain ⟨a0, a1, a2, a3, a4, a5⟩ := ClCells HR11.out HA3.out
            go_wp2_with fail
            clear a0 a1 a2 a3 a4 a5
            obtain ⟨S11, hb11⟩ := HR11.out.book
            refine (at_gives hb11 _ _).mono ?_
            rintro e w12 ⟨zf, zn, zm, zs, zy, HZ, rfl, hB12⟩
            obtain ⟨rfl, rfl, rfl, rfl, hyy⟩ := same_at HX HZ
            subst hyy
            have HR12 := Lib.hid (HR11.out.below hB12)
            clear hb11 hB12 HR11 HZ
            obtain ⟨a0, a1, a2, a3, a4, a5⟩ := ClCells HR12.out HA3.out
            go_wp2_with fail
            clear a0 a1 a2 a3 a4 a5
            have HR13 := Lib.hid (HR12.out.alloc (.cells #[.int .i64 xf, .int .i64 xn, .string xm, .int .i64 xs] 40))
            obtain ⟨bz, hbz⟩ : ∃ bz, bz = w12.heap.size := ⟨_, rfl⟩
            obtain ⟨w13, hw13⟩ : ∃ w13, w13 = w12.alloc (.cells #[.int .i64 xf, .int .i64 xn, .string xm, .int .i64 xs] 40) := ⟨_, rfl⟩
            rw [← hw13, ← hbz] at HR13
            rw [← hw13, ← hbz]
            clear hw13 hbz HR12
            obtain ⟨K4, hK4⟩ : ∃ K4, K4 = (bz, Obj.cells #[.int .i64 xf, .int .i64 xn, .string xm, .int .i64 xs] 40 (0, 0)) :: K3 := ⟨_, rfl⟩
            rw [← hK4] at HR13
            have HA4 := Lib.hid (show (w.heap.size, ClArg ao l.length cap f nm num sz) ∈ K4 by rw [hK4]; exact List.mem_cons_of_mem _ HA3.out)
            have HD4 := Lib.hid (show (d, Obj.cells (flags cl 7) 51 (0, 0)) ∈ K4 by rw [hK4]; exact List.mem_cons_of_mem _ HD3.out)
            have HX4 := Lib.hid (show (bx, Obj.cells #[.int .i64 xf, .int .i64 xn, .string xm, .int .i64 xs] 40 (0, 0)) ∈ K4 by rw [hK4]; exact List.mem_cons_of_mem _ HX3.out)
            have HZ4 := Lib.hid (show (bz, Obj.cells #[.int .i64 xf, .int .i64 xn, .string xm, .int .i64 xs] 40 (0, 0)) ∈ K4 by rw [hK4]; exact List.mem_cons_self)
            have HV4 := Lib.hid (show ∀ w2 : World, (∀ x ∈ K4, w2.heap[x.1]? = some x.2) → ∃ B, w2.ownsRow B 40 4 va es.length (flat es) from fun w2 h => HV3.out w2 (fun x hx => h x (by rw [hK4]; exact List.mem_cons_of_mem _ hx)))
            clear hK4 HA3 HD3 HX3 HV3
            obtain ⟨a0, a1, a2, a3, a4, a5⟩ := ClCells HR13.out HA4.out
            go_wp2_with fail
            clear a0 a1 a2 a3 a4 a5
            obtain ⟨S13, hb13⟩ := HR13.out.book
            refine (find_any hb13 _ _).mono ?_
            rintro e w14 ⟨rfl, hB14⟩
            have HR14 := Lib.hid (HR13.out.below hB14)
            clear hb13 hB14 HR13
            obtain ⟨a0, a1, a2, a3, a4, a5⟩ := ClCells HR14.out HA4.out
            go_wp2_with fail
            clear a0 a1 a2 a3 a4 a5
            obtain ⟨S14, hb14⟩ := HR14.out.book
            refine (count_any hb14 _).mono ?_
            rintro e w15 ⟨rfl, hB15⟩
            have HR15 := Lib.hid (HR14.out.below hB15)
            clear hb14 hB15 HR14
            obtain ⟨e0, e1, e2, e3⟩ := EntCells HR15.out HX4.out
            obtain ⟨g0, g1, g2, g3⟩ := EntCells HR15.out HZ4.out
            go_wp2_with fail
            clear e0 e1 e2 e3 g0 g1 g2 g3
            go_loopw [20] (fun i wr => ∃ k : Nat, k ≤ 7 ∧ i = .int .i64 k ∧ Hid (Rel w K4 p es (shutF cl f) wr)) (fun i _ => 7 - (intOf i).toNat)
            case atStart => exact ⟨0, by omega, rfl, HR15⟩
            case round =>
              obtain ⟨k3, hk3, rfl, HL⟩ := hrel
              obtain ⟨a0, a1, a2, a3, a4, a5⟩ := ClCells HL.out HA4.out
              have hdk := HL.out.keep HD4.out
              by_cases hlt3 : k3 < 7
              · have q0 := cell_in hdk k3 (flags_get cl k3 hlt3)
                have HOS := Lib.hid (open_shut cl f k3)
                obtain ⟨S16, hb16⟩ := HL.out.book
                have HB16 := Lib.hid hb16
                have hkk : (k3 : Int) < 7 := by omega
                clear hdk hb16 a0 a2 a3 a4 a5
                cases hob : openF cl k3
                · rw [hob] at q0
                  have HO := Lib.hid (show openF (shutF cl f) k3 = false by rw [HOS.out, hob]; rfl)
                  clear hob HOS
                  go_wp2_with fail
                  go_quiet ((go_at_call 16; exact open_quiet HB16.out _ HO.out))
                  go_wp2_with fail
                  go_roundw
                  case rel => exact ⟨k3 + 1, by omega, by go_num, HL.out.below (Below.drewN' _ _)⟩
                  case measure => simp [intOf]; omega
                · rw [hob] at q0
                  by_cases hkf : (k3 : Int) = f
                  · have HO := Lib.hid (show openF (shutF cl f) k3 = false by rw [HOS.out, hob]; simp [hkf])
                    have hne : ((k3 : Int) != f) = false := by simpa using hkf
                    clear hob HOS hkf
                    go_wp2_with fail
                    go_quiet ((go_at_call 16; exact open_quiet HB16.out _ HO.out))
                    go_wp2_with fail
                    go_roundw
                    case rel => exact ⟨k3 + 1, by omega, by go_num, HL.out.below (Below.drewN' _ _)⟩
                    case measure => simp [intOf]; omega
                  · have HO := Lib.hid (show openF (shutF cl f) k3 = true by rw [HOS.out, hob]; simp [hkf])
                    have hne : ((k3 : Int) != f) = true := by simpa using hkf
                    clear hob HOS hkf
                    go_wp2_with fail
                    go_quiet ((go_at_call 16; exact open_quiet HB16.out _ HO.out))
                    go_wp2_with fail
                    go_roundw
                    case rel => exact ⟨k3 + 1, by omega, by go_num, HL.out.below (Below.drewN' _ _)⟩
                    case measure => simp [intOf]; omega
              · obtain rfl : k3 = 7 := by omega
                go_wp2_with fail
                clear a0 a1 a2 a3 a4 a5 hdk
                obtain ⟨S16, hb16⟩ := HL.out.book
                refine (all_any hb16).mono ?_
                rintro e w16 ⟨vb, rfl, hvb, hB16⟩
                obtain ⟨Ba, hva⟩ := HV4.out w16 (fun x hx => (HL.out.below hB16).keep hx)
                have hL16 := Lib.hid (HL.out.below hB16)
                have HVB := Lib.hid (And.intro hva hvb)
                clear hb16 hva hvb hB16 HL
                go_wp2_with fail
                refine (same_true HVB.out.2 HVB.out.1).mono ?_
                rintro e w17 ⟨rfl, hB17⟩
                have HL17 := Lib.hid (hL16.out.below hB17)
                have hd17 := HL17.out.keep HD4.out
                have q0 := cell_in hd17 0 (v := .bool false) (flags_get cl 0 (by omega))
                have q6 := cell_in hd17 6 (v := .bool false) (flags_get cl 6 (by omega))
                clear hB17 hL16 HVB hd17
                go_wp2_with fail
                go_ret
                exact ⟨rfl, HL17.out.outer⟩

end Go.Proofs.Ytgdeeojamnbakaa
