/- The walk of Decode; lists of fields in memory of the call's own. -/
import Derived.Test.YthekbefbhjllnaaDoorTlvTake
import Derived.Test.YthekbefbhjllnaaDoorTlvPut
namespace Go.Proofs.YthekbefbhjllnaaDoor
open Go.RowKit
open Go.Lib (byteCells uvarint)

/-- the cells of a list of fields -/
def fcs (l : List Fd) : List Value := l.flatMap fun f => (ffC f).toList
theorem fcs_snoc (l : List Fd) (f : Fd) : fcs (l ++ [f]) = fcs l ++ (ffC f).toList := by unfold fcs; rw [List.flatMap_append]; simp
theorem fcs_len (l : List Fd) : (fcs l).length = l.length * 4 := by
  induction l with
  | nil => rfl
  | cons f r ih =>
    have : fcs (f :: r) = (ffC f).toList ++ fcs r := rfl
    rw [this, List.length_append, ih, List.length_cons]
    show 4 + r.length * 4 = _
    omega
theorem fcs_get : ∀ (l : List Fd) (i : Nat) (f : Fd) (k : Nat), l[i]? = some f → k < 4 → (fcs l)[i * 4 + k]? = (ffC f)[k]?
  | [], i, f, k, h, _ => by simp at h
  | x :: r, 0, f, k, h, hk => by
    simp at h
    subst h
    have : fcs (x :: r) = (ffC x).toList ++ fcs r := rfl
    rw [this, Nat.zero_mul, Nat.zero_add, List.getElem?_append_left (by simpa [ffC] using hk), Array.getElem?_toList]
  | x :: r, i + 1, f, k, h, hk => by
    have e : fcs (x :: r) = (ffC x).toList ++ fcs r := rfl
    have e4 : (ffC x).toList.length = 4 := rfl
    rw [e, List.getElem?_append_right (by rw [e4]; omega), e4, show (i + 1) * 4 + k - 4 = i * 4 + k by omega]
    exact fcs_get r i f k (by simpa using h) hk

/-- the slice is a row of the call's own: the fields l -/
def OwnF (w : World) (base : Nat) (A : Option Addr) (c : Nat) (l : List Fd) : Prop := w.ownsRow base 41 4 (.slice A l.length c) l.length (fcs l)
theorem OwnF.nil (w : World) (base : Nat) : OwnF w base none 0 [] := World.ownsRow_nil w base _ 4
theorem OwnF.then_ {w w' : World} {base : Nat} {A : Option Addr} {c : Nat} {l : List Fd} (h : OwnF w base A c l) (hb : Below w.heap.size w w') : OwnF w' base A c l := own_then h hb
theorem OwnF.lt {w : World} {base : Nat} {A : Option Addr} {c : Nat} {l : List Fd} (h : OwnF w base A c l) : ∀ k, (Value.slice A l.length c).ownBlock = some k → base ≤ k ∧ k < w.heap.size := World.ownsRow.lt h
theorem OwnF.reads {w : World} {base : Nat} {A : Option Addr} {c : Nat} {l : List Fd} (h : OwnF w base A c l) : FRow w w.heap.size A l := by
  rcases h.2 with ⟨hv, h0⟩ | ⟨g, cap, cur, hv, hb, hg, rest⟩
  · exact .inl (List.eq_nil_of_length_eq_zero h0)
  · injection hv with h1 h2 h3
    subst h1
    refine .inr ⟨g, 0, rfl, (Array.getElem?_eq_some_iff.1 hg).1, fun i f hf => ?_⟩
    have hc := World.ownsRow.cells h (g := g) rfl
    have q : ∀ k, k < 4 → ∀ v, (ffC f)[k]? = some v → w.cell? ⟨g, i * 4 + k, none⟩ = some v := fun k hk v hv => by
      have := hc (i * 4 + k) v ((fcs_get l i f k hf hk).trans hv)
      rwa [Addr.add_lit, Nat.zero_add] at this
    rw [Nat.zero_add]
    exact ⟨q 0 (by omega) _ rfl, q 1 (by omega) _ rfl, q 2 (by omega) _ rfl, q 3 (by omega) _ rfl⟩
theorem OwnF.room {w : World} {base : Nat} {A : Option Addr} {c : Nat} {l : List Fd} (h : OwnF w base A c l) : l.length ≤ c := by
  rcases h.2 with ⟨hv, h0⟩ | ⟨g, cap, cur, hv, hb, hg, hn, rest⟩
  · omega
  · injection hv with h1 h2 h3
    omega

theorem infoF : (Tryd.prog.info? 41).map (fun i => (i.zero, i.size, i.bytes)) = some (some (.agg #[.int .i64 0, .int .i64 0, .int .u64 0, .string ⟨#[]⟩]), 4, 40) := by kernel_rfl
theorem info_f : ∃ i, Tryd.prog.info? 41 = some i ∧ i.zero = some (.agg #[.int .i64 0, .int .i64 0, .int .u64 0, .string ⟨#[]⟩]) ∧ i.size = 4 ∧ i.bytes = 40 := by
  have h := infoF
  cases hq : Tryd.prog.info? 41 with
  | none => simp [hq] at h
  | some i =>
    simp [hq] at h
    exact ⟨i, rfl, h.1, h.2.1, h.2.2⟩

/-- one field more, out of a list that was just laid -/
theorem run_app_fld {w : World} {base : Nat} {A : Option Addr} {c : Nat} {l : List Fd} (ho : OwnF w base A c l) (f : Fd) (r : List Fd) (hr : r = l ++ [f]) (hm : r.length ≤ 1000000000) (hbase : base ≤ w.heap.size) :
    ∃ A' c' w', (Builtin.append_ #[22, 22] 22 #[.slice A l.length c, .slice (some ⟨w.heap.size, 0, none⟩) 1 1]).run Tryd.prog (w.alloc (.cells (ffC f) 41)) = .ok (.slice A' r.length c') w' ∧ OwnF w' base A' c' r ∧ Below base w w' ∧
      ∀ k o, k < w.heap.size → (∀ g, (Value.slice A l.length c).ownBlock = some g → g ≠ k) → w'.cell? ⟨k, o, none⟩ = w.cell? ⟨k, o, none⟩ := by
  obtain ⟨i0, hi, hz0, hz1, hz2⟩ := info_f
  have hl : r.length = l.length + 1 := by rw [hr, List.length_append]; rfl
  have hBa : Below w.heap.size w (w.alloc (.cells (ffC f) 41)) := (Below.refl _ _).alloc (Nat.le_refl _) _
  have hs : (w.alloc (.cells (ffC f) 41)).heap.size = w.heap.size + 1 := by simp
  obtain ⟨v', w', hr', hown, hg, _, _⟩ := run_append_own_at (P := Tryd.prog) (w.alloc (.cells (ffC f) 41)) base 22 22 41 i0 _ 4 40 Tryd.underlying22 hi hz0 hz1 hz2 rfl (by decide) _ l.length (fcs l) (ho.then_ hBa) ⟨w.heap.size, 0, none⟩ 1 1 (ffC f).toList
    rfl (fun j u hu => by rw [Addr.add_lit, Nat.zero_add, cell_of_row _ w.heap.size _ (ffC f) 41 (0, 0) (heap_alloc_new w _), ← Array.getElem?_toList]; exact hu)
    (by intro u hu; simp [ffC] at hu; rcases hu with rfl | rfl | rfl | rfl <;> rfl) (by simp only [maxLen]; omega) (by omega) (by omega)
  rw [← fcs_snoc, ← hr, ← hl] at hown
  have hB : Below base w w' := ((Below.refl base w).alloc hbase _).grown hg (by omega) fun k hk => (ho.lt k hk).1
  rcases hown.2 with ⟨rfl, h0⟩ | ⟨g, cap, cur, rfl, rest⟩
  · omega
  · refine ⟨some ⟨g, 0, none⟩, cap, w', hr', hown, hB, fun k o hk hne => World.cell?_of_block (a := ⟨k, o, none⟩) ?_⟩
    exact (hg.block k (by omega) fun e => hne k e.symm rfl).trans (heap_alloc_old w _ hk)

theorem tkFld_size {b : List UInt8} {f : Fd} {n : Nat} (h : tkFld b = some (f, n)) : f.v.s.size ≤ b.length := by
  unfold tkFld at h
  by_cases hc : tkE b = 0 ∧ tkX b / 8 ≤ 65535 ∧ tkE (r1 b) = 0 ∧ tkX (r1 b) ≤ (r2 b).length
  · rw [if_pos hc] at h
    obtain ⟨v, hv, he⟩ := Option.map_eq_some_iff.1 h
    simp only [Prod.mk.injEq] at he
    rw [← he.1]
    show v.s.size ≤ _
    have hr : (r2 b).length ≤ b.length := by unfold r2 r1; rw [List.length_drop, List.length_drop]; omega
    unfold tkVal at hv
    split at hv
    · split at hv
      · rw [← Option.some.inj hv]; exact Nat.zero_le _
      · cases hv
    · rw [← Option.some.inj hv]
      show (List.take (tkX (r1 b)) (r2 b)).length ≤ _
      rw [List.length_take]; omega
  · rw [if_neg hc] at h; cases h

/-- what Decode answers -/
def NewDec (w : World) (b : List UInt8) (e : Ending) (w' : World) : Prop :=
  ∃ A' c', e = .returned (.tuple #[.slice A' (dre b).length c', .int .i64 (der b)]) ∧ OwnF w' w.heap.size A' c' (dre b) ∧ Below w.heap.size w w'
theorem new_dec_bad {w w' : World} {b : List UInt8} {a : Int} (h : der b = a ∧ dre b = []) (hb : Below w.heap.size w w') : NewDec w b (.returned (.tuple #[.slice none 0 0, .int .i64 a])) w' := by
  unfold NewDec; rw [h.1, h.2]; exact ⟨none, 0, rfl, OwnF.nil _ _, hb⟩
theorem new_dec_ok {w w' : World} {b : List UInt8} {r : List Fd} {A : Option Addr} {c : Nat} (h : der b = 0 ∧ dre b = r) (ho : OwnF w' w.heap.size A c r) (hb : Below w.heap.size w w') : NewDec w b (.returned (.tuple #[.slice A r.length c, .int .i64 0])) w' := by
  unfold NewDec; rw [h.1, h.2]; exact ⟨A, c, rfl, ho, hb⟩

/-- how long a slice is -/
def slen : Value → Nat
  | .slice _ n _ => n
  | _ => 0

set_option maxRecDepth 100000 in
set_option maxHeartbeats 4000000 in
theorem decode_any {w0 w : World} (h : KSt w0 w) {A : Option Addr} {b : List UInt8} (c : Nat) (hA : Byt w w.heap.size A b) (hc : b.length ≤ c) (hm : b.length ≤ 140737488355328) :
    Calls Tryd.prog 21 #[.slice A b.length c] w (NewDec w b) := by
  by_cases hlong : 16777215 < b.length
  · have hd := Lib.hid (der_long hlong)
    go_enter Tryd.func21, Tryd.ntmps21
    go_wp2
    go_ret2
    exact new_dec_bad hd.out (Below.refl _ _)
  have H0 := Lib.hid h.self
  have HA := Lib.hid hA
  clear h hA
  go_enter Tryd.func21, Tryd.ntmps21
  go_wp2
  go_loopw [0, 4, 5] (fun bs rs la wr => ∃ (cur : List UInt8) (A1 A2 : Option Addr) (c1 c2 : Nat) (rec : List Fd) (m : Int), bs = .slice A1 cur.length c1 ∧ rs = .slice A2 rec.length c2 ∧ la = .int .i64 m ∧ Below w.heap.size w wr ∧ cur.length ≤ c1 ∧ cur.length ≤ b.length ∧
    Hid (Byt w w.heap.size A1 cur) ∧ Hid (b = enc rec ++ cur) ∧ Hid (Is 0 rec) ∧ Hid (m = lastOf 0 rec) ∧ Hid (OwnF wr w.heap.size A2 c2 rec)) (fun bs _ _ _ => slen bs)
  case atStart => exact ⟨b, A, none, c, 0, [], 0, rfl, rfl, rfl, Below.refl _ _, hc, Nat.le_refl _, HA.out, rfl, trivial, rfl, OwnF.nil _ _⟩
  case round =>
    obtain ⟨cur, A1, A2, c1, c2, rec, m, rfl, rfl, rfl, hB, hc1, hcb, HC, HE, HI, HM, HO⟩ := hrel
    clear HA hc
    by_cases h0 : 0 < cur.length
    · have hne : cur ≠ [] := fun e => by rw [e] at h0; simp at h0
      have hK : KSt w wr := H0.out.then_ hB
      have hcw : Byt wr wr.heap.size A1 cur := (HC.out.below hB).more hB.size
      have hcm : cur.length ≤ 140737488355328 := by omega
      cases ht : tkFld cur with
      | none =>
        have ct := tfld_bad hK.k c1 hcw hcm hc1 ht
        have hd := Lib.hid (der_bad (by omega) (dec_stop HI.out HE.out (by omega) hne (fun f n q => by rw [ht] at q; cases q)))
        clear ht hne hcw hK
        go_wp2_with (go_at_call 40; refine ct.mono ?_; rintro e w1 ⟨⟨t, k, n, y, s, rfl⟩, hb1⟩)
        go_ret2
        exact new_dec_bad hd.out ((hB.trans (hb1.mono hB.size)).alloc (by have := hB.size; have := hb1.size; omega) _)
      | some fn =>
        obtain ⟨f, n⟩ := fn
        obtain ⟨hfit, hnf, hsplit, hn1, hnl⟩ := tkFld_ok ht
        clear hnf
        have hsz := tkFld_size ht
        have ct := tfld_any hK.k c1 hcw hcm hc1 ht
        have cc := fun {W : World} (q : KSt w W) => can_any q f m hfit (by omega)
        by_cases hcan : canF f m = true
        · obtain ⟨s1, s2⟩ := dec_step HI.out HE.out ht (by rw [← HM.out]; exact hcan)
          obtain ⟨A3, hA3⟩ : ∃ A3, (if c1 = n then A1 else A1.map (·.add n)) = A3 := ⟨_, rfl⟩
          have hcut := run_cut_l (P := Tryd.prog) Tryd.underlying28 (by kernel_rfl) A1 A3 cur.length c1 n hnl hA3.symm
          have hC3 := HC.out.drop (k := n) (cap := c1) hc1 hnl
          rw [hA3] at hC3
          obtain ⟨d, hd⟩ : ∃ d, d = cur.drop n := ⟨_, rfl⟩
          have hdl : d.length = cur.length - n := by rw [hd, List.length_drop]
          rw [← hdl] at hcut
          have HDL := Lib.hid hdl
          rw [← hd] at hC3 s2
          obtain ⟨r, hr⟩ : ∃ r, r = rec ++ [f] := ⟨_, rfl⟩
          have hrl : r.length ≤ 65535 := by rw [hr]; exact is_few s1
          have hlast : f.t = lastOf 0 r := by rw [hr, last_snoc]
          rw [← hr] at s1 s2
          have hwf := fun (W : World) (ho : OwnF W w.heap.size A2 c2 rec) (hb : w.heap.size ≤ W.heap.size) => run_app_fld ho f r hr (by omega) hb
          simp only [hcan] at cc
          have HS := Lib.hid (And.intro s1 (And.intro s2 (And.intro hlast hC3)))
          have HWF := Lib.hid hwf
          clear s1 s2 hlast hC3 hsplit hd hA3 hdl hcan ht hfit hsz hcw hne hr hwf
          obtain ⟨t, v⟩ := f
          obtain ⟨k, nn, s⟩ := v
          unfold ffC at ct cc
          dsimp only at ct cc
          go_wp2_with (go_at_call 40; refine ct.mono ?_; rintro e w1 ⟨rfl, hb1⟩)
          have hB1 : Below w.heap.size w w1 := hB.trans (hb1.mono hB.size)
          have hbs := hB.size
          have hbs1 := hb1.size
          refine (cc ((hK.then_ hb1).new _)).mono ?_
          rintro e w3 ⟨rfl, hb3⟩
          obtain ⟨hc3, _⟩ := Below.cells hb3
          have hz3 : w1.heap.size < w3.heap.size := by have := hb3.size; simp at this; omega
          have ho3 : OwnF w3 w.heap.size A2 c2 rec := ((HO.out.then_ hb1).then_ ((Below.refl _ _).alloc (Nat.le_refl _) _)).then_ hb3
          obtain ⟨A4, c4, w4, hr4, ho4, hb4, hk4⟩ := HWF.out w3 ho3 (by omega)
          have hbx : w4.cell? ⟨w1.heap.size, 0, none⟩ = some (.int .i64 t) := by
            rw [hk4 _ 0 hz3 (fun g hg => by have := HO.out.lt g hg; omega), (Below.cells hb3).1 _ 0 (by simp)]
            exact cell_of_row (w1.alloc (.cells #[.int .i64 t, .int .i64 k, .int .u64 nn, .string s] 41)) w1.heap.size 0 _ _ (0, 0) (heap_alloc_new w1 _)
          have hB3 : Below w.heap.size w w3 := (hB1.alloc hB1.size _).trans (hb3.mono (by simp; omega))
          have HR4 := Lib.hid hr4
          have HO4 := Lib.hid ho4
          have HB4 := Lib.hid (hB3.trans hb4)
          clear hr4 ho4 hb4 hk4 ho3
          go_wp2_with (at_builtin; refine wpList_append_run rfl (.tmp 29) (.tmp 31) _ rfl rfl rfl HR4.out ?_)
          go_roundw
          case rel => exact ⟨d, A3, A4, c1 - n, c4, r, t, rfl, rfl, rfl, HB4.out, by have := HDL.out; omega, by have := HDL.out; omega, HS.out.2.2.2, HS.out.2.1, HS.out.1, HS.out.2.2.1, HO4.out⟩
          case measure => have := HDL.out; simp [slen]; omega
        · have hd := Lib.hid (der_bad (by omega) (dec_stop HI.out HE.out (by omega) hne (fun f' n' q => by
            rw [ht] at q
            obtain ⟨rfl, rfl⟩ := Prod.mk.inj (Option.some.inj q)
            rw [← HM.out]; simpa using hcan)))
          have hcan' : canF f m = false := by simpa using hcan
          simp only [hcan'] at cc
          clear hsplit hcan hcan' ht hfit hsz hcw hne
          obtain ⟨t, v⟩ := f
          obtain ⟨k, nn, s⟩ := v
          unfold ffC at ct cc
          dsimp only at ct cc
          go_wp2_with (first
            | (go_at_call 40; refine ct.mono ?_; rintro e w1 ⟨rfl, hb1⟩)
            | (go_at_call 41; refine (cc ((hK.then_ hb1).new _)).mono ?_; rintro e w3 ⟨rfl, hb3⟩))
          go_ret2
          exact new_dec_bad hd.out ((hB.trans (hb1.mono hB.size)).trans (((Below.refl _ _).alloc (Nat.le_refl _) _).trans (hb3.mono (by simp)) |>.mono (by have := hB.size; have := hb1.size; omega)))
    · obtain rfl : cur = [] := List.eq_nil_of_length_eq_zero (by omega)
      have hd := Lib.hid (der_ok (b := b) (by omega) HI.out (by have := HE.out; rw [List.append_nil] at this; exact this.symm))
      go_wp2
      go_ret2
      exact new_dec_ok hd.out HO.out hB
end Go.Proofs.YthekbefbhjllnaaDoor
