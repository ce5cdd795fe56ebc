/- The walk of the statement's question whether each list that Entries answers is memory of its own. -/
import Derived.Test.YtijgcfnjbfaelaaDoorConvTable
import Derived.Test.YtijgcfnjbfaelaaDoorTurned
import Derived.Test.YtijgcfnjbfaelaaDoorBytApp
namespace Go.Proofs.YtijgcfnjbfaelaaDoor
open Go.RowKit

/-- at block g stand n entries with this name and size and nothing else -/
def IsE (w : World) (g n : Nat) (s : ByteArray) (z : Int) : Prop := ∀ i, i < n → w.rangeAt g (i * 4) [.int .i64 0, .int .i64 0, .string s, .int .i64 z]
section
variable {w w' : World} {g n : Nat} {s : ByteArray} {z : Int}
theorem IsE.set {k : Nat} (h : IsE w g k s z) (ht : w.there g (k * 4) 4) : IsE (w.setCells g (k * 4) [.int .i64 0, .int .i64 0, .string s, .int .i64 z]) g (k + 1) s z := fun i hi => by
  rcases Nat.lt_or_ge i k with q | q
  · exact World.rangeAt_setCells_apart (h i q) g (k * 4) _ (.inr (.inl (by simp; omega)))
  · obtain rfl : i = k := by omega
    exact World.rangeAt_setCells_same w g (i * 4) _ ht
theorem IsE.keep {g' : Nat} (h : IsE w g n s z) (hk : ∀ j, j < n * 4 → w'.cell? ⟨g', j, none⟩ = w.cell? ⟨g, j, none⟩) : IsE w' g' n s z := fun i hi j v hv => by
  have hj : j < 4 := (List.getElem?_eq_some_iff.1 hv).1
  rw [hk _ (by omega)]
  exact h i hi j v hv
theorem IsE.cells (h : IsE w g n s z) {i : Nat} (hi : i < n) : w.cell? ⟨g, i * 4, none⟩ = some (.int .i64 0) ∧ w.cell? ⟨g, i * 4 + 1, none⟩ = some (.int .i64 0) ∧ w.cell? ⟨g, i * 4 + 2, none⟩ = some (.string s) ∧ w.cell? ⟨g, i * 4 + 3, none⟩ = some (.int .i64 z) :=
  ⟨h i hi 0 _ rfl, h i hi 1 _ rfl, h i hi 2 _ rfl, h i hi 3 _ rfl⟩
end
/-- one more of them onto a row of the call's own -/
theorem IsE.more {T : TypeId} {w w' : World} {base g n cap g' cap' : Nat} {xs : List Value} {s : ByteArray} {z : Int} (h : IsE w g n s z) (ho : w.ownsRow base T 4 (.slice (some ⟨g, 0, none⟩) n cap) n xs)
    (ho' : w'.ownsRow base T 4 (.slice (some ⟨g', 0, none⟩) (n + 1) cap') (n + 1) (xs ++ [.int .i64 0, .int .i64 0, .string s, .int .i64 z])) : IsE w' g' (n + 1) s z := fun i hi j v hv => by
  have hj : j < 4 := (List.getElem?_eq_some_iff.1 hv).1
  rw [ho'.cellAt _ (by omega)]
  rcases Nat.lt_or_ge i n with q | q
  · rw [List.getElem?_append_left (by rw [ho.1]; omega), ← ho.cellAt _ (by omega)]
    exact h i q j v hv
  · obtain rfl : i = n := by omega
    rw [List.getElem?_append_right (by rw [ho.1]; omega), ho.1, Nat.add_sub_cancel_left]
    exact hv
/-- a row that is written, then written on in the same block or in a new one -/
theorem grown_step {a b c : World} {r g : Nat} (h : a.grownBy b (some r)) (h2 : b.grownBy c (some g)) (hg : g = r ∨ a.heap.size ≤ g) : a.grownBy c (some r) := by
  refine ⟨h2.os.trans h.os, h2.tape.trans h.tape, h2.output.trans h.output, Nat.le_trans h.size h2.size, fun k hk hne => ?_⟩
  refine (h2.block k (Nat.lt_of_lt_of_le hk h.size) fun e => ?_).trans (h.block k hk hne)
  have e' : k = g := by injection e
  rcases hg with q | q
  · exact hne (by rw [e', q])
  · omega

/-- append of one struct that was just laid onto a row of the call's own: the row's old cells stay where they were -/
theorem own_more {P : Program} {T : TypeId} {w : World} {base g cap n : Nat} {xs : List Value} (ho : w.ownsRow base T 4 (.slice (some ⟨g, 0, none⟩) n cap) n xs) (hbase : base ≤ w.heap.size)
    (t ty : TypeId) (i : TypeInfo) (z : Value) (ht : P.underlying t = some (.slice T)) (hi : P.info? T = some i) (hz : i.zero = some z) (hs : i.size = 4) (hby : i.bytes = 40) (hzs : z.cells.size = 4)
    (cs : Array Value) (hc : cs.size = 4) (h1 : ∀ u ∈ cs.toList, u.oneCell' = true) (hl : n + 1 ≤ 1000) :
    ∃ g' cap' w', (Builtin.append_ #[t, t] ty #[.slice (some ⟨g, 0, none⟩) n cap, .slice (some ⟨w.heap.size, 0, none⟩) 1 1]).run P (w.alloc (.cells cs T)) = .ok (.slice (some ⟨g', 0, none⟩) (n + 1) cap') w' ∧
      w'.ownsRow base T 4 (.slice (some ⟨g', 0, none⟩) (n + 1) cap') (n + 1) (xs ++ cs.toList) ∧ w.grownBy w' (some g) ∧ (g' = g ∨ w.heap.size ≤ g') ∧ (∀ j, j < n * 4 → w'.cell? ⟨g, j, none⟩ = w.cell? ⟨g, j, none⟩) := by
  have hlt : g < w.heap.size := (World.ownsRow.lt ho g rfl).2
  have ho2 : (w.alloc (.cells cs T)).ownsRow base T 4 (.slice (some ⟨g, 0, none⟩) n cap) n xs := ho.alloc _
  have hnews : ∀ j u, cs.toList[j]? = some u → (w.alloc (.cells cs T)).cell? ((⟨w.heap.size, 0, none⟩ : Addr).add j) = some u := World.news_of_block (heap_alloc_new w _)
  obtain ⟨g', cap', w', hr, hown, hgr, hat, _⟩ := run_append_lies (P := P) (w.alloc (.cells cs T)) t ty base T i z 4 40 ht hi hz hs hby hzs (by decide) (.slice (some ⟨g, 0, none⟩) n cap) n xs ho2 ⟨w.heap.size, 0, none⟩ 1 1 cs.toList (by simpa using hc) hnews h1 (by decide) (by simp only [maxLen]; omega) (by omega) (by simp; omega) _ rfl
  have hgb : (Value.slice (some ⟨g, 0, none⟩) n cap).ownBlock = some g := rfl
  rw [hgb] at hgr hat
  have hgw : w.grownBy w' (some g) := ⟨hgr.os, hgr.tape, hgr.output, by have := hgr.size; simp at this; omega, fun k hk hne => (hgr.block k (by simp; omega) hne).trans (heap_alloc_old w _ hk)⟩
  refine ⟨g', cap', w', hr, hown, hgw, ?_, ?_⟩
  · rcases hat with q | q
    · exact .inl (by injection q with q; exact q.symm)
    · exact .inr (by rw [q]; simp)
  · intro j hj
    by_cases hroom : n + 1 ≤ cap
    · have hr2 := run_append_room_cells (P := P) (w.alloc (.cells cs T)) t ty T i ht hi g 0 n cap ⟨w.heap.size, 0, none⟩ 1 1 cs.toList (by rw [hs]; simpa using hc) hnews h1 hroom
        (fun j hj => by
          rcases ho2.2 with ⟨h', _⟩ | ⟨g2, cap2, cur, h', _, hg2, hnc, _, hcs, _⟩
          · simp at h'
          · simp only [Value.slice.injEq, Option.some.injEq, Addr.mk.injEq, and_true, true_and] at h'
            obtain ⟨rfl, rfl⟩ := h'
            rw [cell_of_row _ g _ cur T (0, 0) hg2, hs]
            have : j < 4 := by simpa [hc] using hj
            rw [Array.getElem?_eq_getElem (by omega)]; rfl)
        (fun j _ => ho2.frozenAt _)
      rw [hr] at hr2
      injection hr2 with e1 e2
      injection e1 with e1 _ e3
      injection e1 with e1
      injection e1 with e1
      subst e1
      rw [hown.cellAt j (by omega), List.getElem?_append_left (by rw [ho.1]; exact hj), ho.cellAt j hj]
    · have hr2 := run_append_grow (P := P) (w.alloc (.cells cs T)) t ty T i z ht hi hz ⟨g, 0, none⟩ n cap xs (by rw [hs]; exact ho.1) (fun j v hv => by
          rw [Addr.add_lit, Nat.zero_add, ho2.cellAt j (by have := (List.getElem?_eq_some_iff.1 hv).1; have := ho.1; omega)]; exact hv)
        ⟨w.heap.size, 0, none⟩ 1 1 cs.toList (by rw [hs]; simpa using hc) hnews (by omega) (by omega) (growslice_fits (by omega) (by rw [hby]; omega))
      rw [hr] at hr2
      injection hr2 with e1 e2
      subst e2
      have hB : Below w.heap.size w ((w.alloc (.cells cs T)).drew) := Below.drew ((Below.refl _ _).alloc (Nat.le_refl _) _)
      exact (Below.cells (hB.alloc hB.size _)).1 g j hlt

set_option maxRecDepth 100000 in
set_option maxHeartbeats 8000000 in
theorem own_any {w : World} (h : CSt w w) (s : ByteArray) : Calls Tryd.prog 12 #[.string s] w fun e w' => e = .returned (.bool true) ∧ Below w.heap.size w w' := by
  obtain ⟨ie, hie, hiz, h4, h40⟩ := info_of (P := Tryd.prog) (T := 54) (z := .agg #[.int .i64 0, .int .i64 0, .string ⟨#[]⟩, .int .i64 0]) infoEn
  have HI := Lib.hid hie
  have HZ := Lib.hid hiz
  have H4 := Lib.hid h4
  have H40 := Lib.hid h40
  have HK := Lib.hid h
  clear hie hiz h4 h40 h
  go_enter Tryd.func12, Tryd.ntmps12
  go_wp2_with fail
  refine (centries_any HK.out.k.k).mono ?_
  rintro e w1 ⟨v1, rfl, o1⟩
  obtain ⟨gl, cl, hv1, hcl, _, hgl, hgl1, _⟩ := o1.form (by decide)
  subst hv1
  have hB1 := o1.below
  have own1 := o1.own
  have hs1 : w.heap.size ≤ w1.heap.size := hB1.size
  clear o1
  go_wp2_with fail
  refine (centries_any (HK.out.k.k.below hB1)).mono ?_
  rintro e w2 ⟨v2, rfl, o2⟩
  obtain ⟨gm, cm, hv2, hcm, _, hgm, hgm2, hcell2⟩ := o2.form (by decide)
  subst hv2
  have hb2 := o2.below
  have hs2 : w1.heap.size ≤ w2.heap.size := hb2.size
  have own2 := o2.own
  have own1' := own1.kept (below_grown hb2 none) (.inr (by simp [Value.ownBlock]))
  have hB2 := hB1.trans (hb2.mono hs1)
  have hne : gl ≠ gm := by omega
  have HM2 : Hid (∀ j, j < 48 → w2.cell? ⟨gm, j, none⟩ = (flatK 12)[j]?) := fun j hj => hcell2 j (by omega)
  have HO2 := Lib.hid own2
  have HR1 : Hid (Rw w2 w.heap.size 54 4 (.slice (some ⟨gl, 0, none⟩) 12 cl) 12) := ⟨_, own1'⟩
  clear own1 own2 own1' o2 hcell2 hb2 hB1
  go_wp2_with fail
  go_loopw [5] (fun i wr => ∃ k : Nat, i = .int .i64 k ∧ k ≤ 12 ∧ Turned gl w2 wr ∧ Hid (Rw wr w.heap.size 54 4 (.slice (some ⟨gl, 0, none⟩) 12 cl) 12) ∧ Hid (IsE wr gl k s (-1))) (fun i _ => 12 - (intOf i).toNat)
  case atStart => exact ⟨0, rfl, by omega, Turned.refl _ _, HR1, fun i hi => absurd hi (Nat.not_lt_zero _)⟩
  case round =>
    obtain ⟨k, rfl, hk, ht, HR, HE⟩ := hrel
    by_cases hlt : k < 12
    · have hltz : (k : Int) < 12 := by omega
      have HT : Hid (wr.there gl (k * 4) 4) := HR.out.there hlt
      go_wp2_with (refine wpList_store_mid rfl 54 (.tmp 23) (.tmp 22) rfl gl (k * 4) #[.int .i64 0, .int .i64 0, .string s, .int .i64 (-1)] rfl rfl HT.out ?s3 ?s5 ?s4; (case s3 => kernel_rfl); (case s5 => kernel_rfl))
      go_roundw
      case rel => exact ⟨k + 1, by go_num, by omega, Turned.setCells _ _ _ ht, Rw.setCells _ _ _ HR.out, HE.out.set HT.out⟩
      case measure => simp [intOf]; omega
    · obtain rfl : k = 12 := by omega
      have hB3 : Below w.heap.size w wr := hB2.trans (ht.below hgl)
      have HO3 : Hid (wr.ownsRow w1.heap.size 54 4 (.slice (some ⟨gm, 0, none⟩) 12 cm) 12 (flatK 12)) := HO2.out.kept ht.grown (.inr (by simp [Value.ownBlock]; omega))
      have HM3 : Hid (∀ j, j < 48 → wr.cell? ⟨gm, j, none⟩ = (flatK 12)[j]?) := fun j hj => (ht.cell (Ne.symm hne) j).trans (HM2.out j hj)
      have hsz3 : wr.heap.size = w2.heap.size := ht.size
      clear HO2 HM2 ht HR1 hB2
      obtain ⟨w3, e3⟩ : ∃ w3 : World, w3 = wr := ⟨_, rfl⟩
      subst e3
      go_wp2_with fail
      go_loopw [6, 7] (fun v i w4 => ∃ (k : Nat) (gg cg : Nat), v = .slice (some ⟨gg, 0, none⟩) (12 + k) cg ∧ i = .int .i64 k ∧ k ≤ 40 ∧ Hid (Rw w4 w.heap.size 54 4 (.slice (some ⟨gg, 0, none⟩) (12 + k) cg) (12 + k)) ∧ Hid (IsE w4 gg (12 + k) s (-1)) ∧ (gg = gl ∨ w3.heap.size ≤ gg) ∧ w3.grownBy w4 (some gl)) (fun _ i _ => 40 - (intOf i).toNat)
      case atStart => exact ⟨0, gl, cl, rfl, rfl, by omega, HR, HE, .inl rfl, below_grown (Below.refl _ _) _⟩
      case round =>
        obtain ⟨k, gg, cg, rfl, rfl, hk, HR, HE, hg, hgr⟩ := hrel
        have hsw := hgr.size
        by_cases hlt : k < 40
        · have hltz : (k : Int) < 40 := by omega
          obtain ⟨xs, ho⟩ := HR.out
          obtain ⟨g9, c9, w9, hrun, ho9, hgw, hat, hcell⟩ := own_more (P := Tryd.prog) ho (by omega) 46 46 ie _ Tryd.underlying46 HI.out HZ.out H4.out H40.out rfl #[.int .i64 0, .int .i64 0, .string s, .int .i64 (-1)] rfl (by simp [Value.oneCell']) (by omega)
          have HRUN := Lib.hid hrun
          have HE9 : Hid (IsE w9 g9 (12 + k + 1) s (-1)) := HE.out.more ho ho9
          have HR9 : Hid (Rw w9 w.heap.size 54 4 (.slice (some ⟨g9, 0, none⟩) (12 + k + 1) c9) (12 + k + 1)) := ⟨_, ho9⟩
          have hgr9 := grown_step hgr hgw hg
          have hg9 : g9 = gl ∨ w3.heap.size ≤ g9 := by omega
          clear hrun ho ho9 hcell hat
          go_wp2_with (first
            | (refine wpList_list rfl 46 54 1 _ rfl #[.int .i64 0, .int .i64 0, .string s, .int .i64 (-1)] ie _ Tryd.underlying46 HI.out HZ.out H4.out (by decide) (by decide) ?_ ?_; kernel_rfl)
            | (at_builtin; refine wpList_append_run rfl (.tmp 29) (.tmp 32) 46 rfl rfl rfl HRUN.out ?_))
          go_roundw
          case rel => exact ⟨_, _, _, _, _, _, _, _, _, _, _, ⟨k + 1, g9, c9, rfl, by go_num, by omega, HR9, HE9, hg9, hgr9⟩, rfl⟩
          case measure => simp [intOf]; omega
        · obtain rfl : k = 40 := by omega
          have hgg : gg < wr.heap.size := by
            obtain ⟨xs, ho⟩ := HR.out
            exact (World.ownsRow.lt ho gg rfl).2
          have hB5 : Below w.heap.size w wr := grown_below hB3 hgr hB3.size fun k hk => by injection hk with hk; omega
          have hngm : gg ≠ gm := by omega
          have HO5 : Hid (wr.ownsRow w1.heap.size 54 4 (.slice (some ⟨gm, 0, none⟩) 12 cm) 12 (flatK 12)) := HO3.out.kept hgr (.inr (by simp [Value.ownBlock]; omega))
          have HM5 : Hid (∀ j, j < 48 → wr.cell? ⟨gm, j, none⟩ = (flatK 12)[j]?) := fun j hj => (grown_cell hgr (by omega) (fun e => hne (by injection e)) j).trans (HM3.out j hj)
          have HE5 : Hid (IsE wr gg 52 s (-1)) := HE
          have hgm5 : gm < wr.heap.size := by omega
          have hs5 : w1.heap.size ≤ wr.heap.size := by omega
          clear HO3 HM3 HR HE hg hgr hB3 hlt hk
          obtain ⟨w5, e5⟩ : ∃ w5 : World, w5 = wr := ⟨_, rfl⟩
          subst e5
          have HR5 : Hid (Rw w5 w1.heap.size 54 4 (.slice (some ⟨gm, 0, none⟩) 12 cm) 12) := ⟨_, HO5.out⟩
          go_wp2_with fail
          go_loopw [8, 9] (fun v i w6 => ∃ (k : Nat) (gh ch : Nat), v = .slice (some ⟨gh, 0, none⟩) (12 + k) ch ∧ i = .int .i64 k ∧ k ≤ 40 ∧ Hid (Rw w6 w1.heap.size 54 4 (.slice (some ⟨gh, 0, none⟩) (12 + k) ch) (12 + k)) ∧ (gh = gm ∨ w5.heap.size ≤ gh) ∧ w5.grownBy w6 (some gm) ∧ Hid (∀ j, j < 48 → w6.cell? ⟨gm, j, none⟩ = (flatK 12)[j]?)) (fun _ i _ => 40 - (intOf i).toNat)
          case atStart => exact ⟨0, gm, cm, rfl, rfl, by omega, HR5, .inl rfl, below_grown (Below.refl _ _) _, HM5⟩
          case round =>
            obtain ⟨k, gh, ch, rfl, rfl, hk, HR, hg, hgr, HM⟩ := hrel
            have hsw := hgr.size
            by_cases hlt : k < 40
            · have hltz : (k : Int) < 40 := by omega
              obtain ⟨xs, ho⟩ := HR.out
              obtain ⟨g9, c9, w9, hrun, ho9, hgw, hat, hcell⟩ := own_more (P := Tryd.prog) ho (by omega) 46 46 ie _ Tryd.underlying46 HI.out HZ.out H4.out H40.out rfl #[.int .i64 0, .int .i64 0, .string s, .int .i64 (-2)] rfl (by simp [Value.oneCell']) (by omega)
              have HRUN := Lib.hid hrun
              have HR9 : Hid (Rw w9 w1.heap.size 54 4 (.slice (some ⟨g9, 0, none⟩) (12 + k + 1) c9) (12 + k + 1)) := ⟨_, ho9⟩
              have HM9 : Hid (∀ j, j < 48 → w9.cell? ⟨gm, j, none⟩ = (flatK 12)[j]?) := fun j hj => by
                refine Eq.trans ?_ (HM.out j hj)
                rcases hg with e | e
                · subst e; exact hcell j (by omega)
                · exact grown_cell hgw (by omega) (fun e' => by injection e' with e'; omega) j
              have hgr9 := grown_step hgr hgw hg
              have hg9 : g9 = gm ∨ w5.heap.size ≤ g9 := by omega
              clear hrun ho ho9 hcell hat
              go_wp2_with (first
                | (refine wpList_list rfl 46 54 1 _ rfl #[.int .i64 0, .int .i64 0, .string s, .int .i64 (-2)] ie _ Tryd.underlying46 HI.out HZ.out H4.out (by decide) (by decide) ?_ ?_; kernel_rfl)
                | (at_builtin; refine wpList_append_run rfl (.tmp 39) (.tmp 42) 46 rfl rfl rfl HRUN.out ?_))
              go_roundw
              case rel => exact ⟨_, _, _, _, _, _, _, _, _, _, _, ⟨k + 1, g9, c9, rfl, by go_num, by omega, HR9, hg9, hgr9, HM9⟩, rfl⟩
              case measure => simp [intOf]; omega
            · obtain rfl : k = 40 := by omega
              have hB6 : Below w.heap.size w wr := grown_below hB5 hgr hB5.size fun k hk => by injection hk with hk; omega
              have HE6 : Hid (IsE wr gg 52 s (-1)) := HE5.out.keep fun j _ => grown_cell hgr hgg (fun e => hngm (by injection e with e; exact e.symm)) j
              have HT6 : Hid (ERow wr gm 0 (entK 12)) := ERow.of_cells (n := 48) (by rw [entK_len]) fun j hj => HM.out j hj
              have hgm6 : gm < wr.heap.size := by omega
              have k6 : CSt wr wr := (HK.out.then_ hB6).self
              have HK6 := Lib.hid k6
              clear HR hg hgr HM HO5 HM5 HE5 HR5 hB5 hlt hk k6
              go_wp2_with fail
              go_loop [10] (fun i => ∃ k : Nat, i = .int .i64 k ∧ k ≤ 52) (fun i => 52 - (intOf i).toNat)
              case atStart => exact ⟨0, rfl, by omega⟩
              case round =>
                obtain ⟨k, rfl, hk⟩ := hrel
                by_cases hlt : k < 52
                · have hltz : (k : Int) < 52 := by omega
                  have k0' : (0 : Int) ≤ (k : Int) := by omega
                  obtain ⟨c0, c1, c2, c3⟩ := HE6.out.cells hlt
                  go_wp2
                  go_round
                  case rel => exact ⟨k + 1, by go_num, by omega⟩
                  case measure => simp [intOf]; omega
                · obtain rfl : k = 52 := by omega
                  have ct := table_any HK6.out gm cm HT6.out hgm6
                  go_wp2_with (go_at_call 27; refine ct.mono ?_; rintro e w7 ⟨rfl, hb7⟩)
                  go_ret
                  exact ⟨rfl, hB6.trans (hb7.mono hB6.size)⟩
end Go.Proofs.YtijgcfnjbfaelaaDoor
