/- The walks of the reference's questions. -/
import Derived.Test.YtgdeeojamnbakaaRefMem
import Derived.Test.YtgdeeojamnbakaaRollNumbers
namespace Go.Proofs.Ytgdeeojamnbakaa
open Go.RowKit

set_option maxHeartbeats 400000 in
theorem family_any (f : Int) (w : World) :
    Calls Try.prog 30 #[.int .i64 f] w fun e w' => e = .returned (.bool (famOk f)) ∧ w = w' := by
  go_enter Try.func30, Try.ntmps30
  go_wp2
  all_goals
    go_ret
    refine ⟨ret_bool ?_, rfl⟩
    simp only [famOk]
  · have h : 1 ≤ f := by assumption
    simp [h]
  · have h : ¬ 1 ≤ f := by omega
    simp [h]

set_option maxHeartbeats 400000 in
theorem word_any (s : ByteArray) (w : World) (hs : s.size ≤ maxLen) :
    Calls Try.prog 33 #[.string s] w fun e w' => e = .returned (.bool (nameOk s)) ∧ w = w' := by
  unfold maxLen at hs
  by_cases h0 : s.size = 0
  · have hb0 : ((s.size : Nat) : Int) < 1 := by omega
    have hfin : nameOk s = false := by simp [nameOk, h0]
    have HFIN := Lib.hid hfin
    clear hfin h0
    go_enter Try.func33, Try.ntmps33
    go_wp2
    go_ret
    exact ⟨ret_bool HFIN.out.symm, rfl⟩
  · have hb0 : 1 ≤ ((s.size : Nat) : Int) := by omega
    by_cases h16 : s.size ≤ 16
    · have hb16 : ((s.size : Nat) : Int) ≤ 16 := by omega
      have hpos : 1 ≤ s.size := by omega
      clear h0
      have hfin : nameOk s = s.data.toList.all okc := by simp [nameOk, h16, hpos]
      have HFIN := Lib.hid hfin
      clear hfin
      go_enter Try.func33, Try.ntmps33
      go_wp2
      go_loop [3] (fun i => ∃ k : Nat, k ≤ s.size ∧ i = .int .i64 k ∧ Hid ((s.data.toList.drop k).all okc = s.data.toList.all okc)) (fun i => s.size - (intOf i).toNat)
      case atStart => exact ⟨0, Nat.zero_le _, rfl, by simp [Hid]⟩
      case round =>
        obtain ⟨k, hk, rfl, HC⟩ := hrel
        by_cases hlt : k < s.size
        · have hd : Hid ((s.data.toList.drop k).all okc = (okc s[k] && (s.data.toList.drop (k + 1)).all okc)) := by
            rw [drop_at _ k (by simpa using hlt)]; rfl
          go_wp2
          · have a1 : (s[k].toNat : Int) = 45 := by assumption
            go_round
            case rel => exact ⟨k + 1, by omega, by go_num, by have h := HC.out; rw [hd.out, okc_dash a1, Bool.true_and] at h; exact h⟩
            case measure => simp [intOf]; omega
          · have a1 : ¬ (s[k].toNat : Int) = 45 := by assumption
            have a2 : ((s[k].toNat : Int) != 45) = true ∧ ((s[k].toNat : Int) < 97 ∨ 122 < (s[k].toNat : Int)) := by assumption
            go_ret
            refine ⟨ret_bool ?_, rfl⟩
            rw [HFIN.out, ← HC.out, hd.out, okc_out a1 a2.2]
            rfl
          · have a1 : ¬ (s[k].toNat : Int) = 45 := by assumption
            have a2 : ((s[k].toNat : Int) != 45) = false ∨ 97 ≤ (s[k].toNat : Int) ∧ (s[k].toNat : Int) ≤ 122 := by assumption
            go_round
            case rel => exact ⟨k + 1, by omega, by go_num, by have h := HC.out; rw [hd.out, okc_in a1 a2, Bool.true_and] at h; exact h⟩
            case measure => simp [intOf]; omega
          · have a1 : ¬ (s[k].toNat : Int) = 45 := by assumption
            have a2 : (s[k].toNat : Int) < 97 := by assumption
            go_ret
            refine ⟨ret_bool ?_, rfl⟩
            rw [HFIN.out, ← HC.out, hd.out, okc_out a1 (.inl a2)]
            rfl
        · go_wp2
          go_ret
          refine ⟨ret_bool ?_, rfl⟩
          rw [HFIN.out, ← HC.out, List.drop_eq_nil_of_le (by simp; omega)]
          rfl
    · have hb16 : 16 < ((s.size : Nat) : Int) := by omega
      clear h0
      have hfin : nameOk s = false := by simp [nameOk, h16]
      have HFIN := Lib.hid hfin
      clear hfin
      go_enter Try.func33, Try.ntmps33
      go_wp2
      go_ret
      exact ⟨ret_bool HFIN.out.symm, rfl⟩

/-- New. -/
def RMakes (w : World) (e : Ending) (w' : World) : Prop :=
  e = .returned (.pointer (some ⟨w.heap.size, 0, none⟩)) ∧ RBook w' w.heap.size [w.heap.size] [] (fun _ => false) ∧ Below w.heap.size w w'

set_option maxHeartbeats 400000 in
theorem rnew_any (w : World) : Calls Try.prog 10 #[] w (RMakes w) := by
  go_enter Try.func10, Try.ntmps10
  go_wp2
  go_ret
  refine ⟨rfl, ⟨.slice none 0 0, .slice none 0 0, [], heap_alloc_new w _, World.ownsRow_nil _ _ _ _, World.ownsRow_nil _ _ _ _, by simp [Value.ownBlock], by simp [Value.ownBlock], by simp [Value.ownBlock], rfl, by simp, by simp [oc], by simp⟩, below_alloc _ _⟩

/- All -/

set_option maxHeartbeats 400000 in
theorem rall_some (b g n cap : Nat) (xs : List Value) (w : World) (hn : n ≤ 64) (hv : w.cell? ⟨b, 0, none⟩ = some (.slice (some ⟨g, 0, none⟩) n cap)) (hb : b < w.heap.size) (hone : ∀ u ∈ xs, u.oneCell' = true)
    (hown : w.ownsRow 0 40 4 (.slice (some ⟨g, 0, none⟩) n cap) n xs) :
    Calls Try.prog 15 #[.pointer (some ⟨b, 0, none⟩)] w (Clones 40 n xs w) := by
  have hnews : ∀ j u, xs[j]? = some u → (w.alloc (.cells #[] 40)).cell? ((⟨g, 0, none⟩ : Addr).add j) = some u := fun j u hj => cell_new (hown.cells (g := g) rfl j u hj) _
  have HN := Lib.hid hnews
  have HO := Lib.hid (show xs.length = n * 4 from hown.1)
  have H1 := Lib.hid hone
  clear hown hnews hone
  have HM := Lib.hid (World.ownsRow_made w (base := w.heap.size) (e := 40) (size := 4) #[] 0 (Nat.le_refl _) (by simp [maxLen]) rfl)
  obtain ⟨i0, hi, hz0, hz1, hz2⟩ := info_parts infoEnt
  have HI := Lib.hid hi
  have HZ := Lib.hid (And.intro hz0 (And.intro hz1 hz2))
  clear hi hz0 hz1 hz2
  go_enter Try.func15, Try.ntmps15
  go_wp2_with (at_builtin; refine wpList_append_own _ rfl _ _ 35 rfl w.heap.size 40 i0 _ 4 40 Try.underlying35 HI.out HZ.out.1 HZ.out.2.1 HZ.out.2.2 rfl (by decide) (.slice (some ⟨w.heap.size, 0, none⟩) 0 0) 0 [] rfl HM.out ⟨g, 0, none⟩ n cap xs rfl HO.out HN.out H1.out (by simp only [maxLen]; omega) (by omega) (by simp) ?_; intro v' w1 hown1 hgrow1 _)
  go_ret
  refine ⟨v', rfl, by simpa using hown1, ?_⟩
  exact ((Below.refl _ w).alloc (Nat.le_refl _) _).grown hgrow1 (by simp) (fun k hk => by have hk2 : some w.heap.size = some k := hk; simp at hk2; omega)

set_option maxHeartbeats 400000 in
theorem rall_none (b : Nat) (w : World) (hv : w.cell? ⟨b, 0, none⟩ = some (.slice none 0 0)) (hb : b < w.heap.size) :
    Calls Try.prog 15 #[.pointer (some ⟨b, 0, none⟩)] w (Clones 40 0 [] w) := by
  have HM := Lib.hid (World.ownsRow_made w (base := w.heap.size) (e := 40) (size := 4) #[] 0 (Nat.le_refl _) (by simp [maxLen]) rfl)
  go_enter Try.func15, Try.ntmps15
  go_wp2
  go_ret
  exact ⟨_, rfl, HM.out, below_alloc _ _⟩

theorem rall_any {w : World} {b : Nat} {S : List Nat} {es : List Ent} {cl : Nat → Bool} (h : RBook w b S es cl) :
    Calls Try.prog 15 #[.pointer (some ⟨b, 0, none⟩)] w (Clones 40 es.length (flat es) w) := by
  obtain ⟨v1, v2, cs, hh, h1, _, _, _, _, _, h64, _⟩ := h
  have hv := cell_in hh 0 (v := v1) rfl
  rcases rows_form h1 with ⟨rfl, h0⟩ | ⟨g, cap, rfl, hg, hc, hm⟩
  · obtain rfl := List.eq_nil_of_length_eq_zero h0
    exact rall_none b w hv (lt_of_block hh)
  · exact rall_some b g _ cap (flat es) w h64 hv (lt_of_block hh) (flat_one es) h1

set_option maxHeartbeats 400000 in
theorem rall_nil (w : World) : Calls Try.prog 15 #[.pointer none] w (Clones 40 0 [] w) := by
  have HM := Lib.hid (World.ownsRow_made w (base := w.heap.size) (e := 40) (size := 4) #[] 0 (Nat.le_refl _) (by simp [maxLen]) rfl)
  go_enter Try.func15, Try.ntmps15
  go_wp2
  go_ret
  exact ⟨_, rfl, HM.out, below_alloc _ _⟩

theorem low_row {w : World} {B : Nat} {t : TypeId} {size n : Nat} {v : Value} {xs : List Value} (h : w.ownsRow B t size v n xs) : w.ownsRow 0 t size v n xs := by
  refine ⟨h.1, ?_⟩
  rcases h.2 with h | ⟨g, cap, cur, hv, _, r⟩
  · exact .inl h
  · exact .inr ⟨g, cap, cur, hv, Nat.zero_le _, r⟩

/-- What All of the book or of none answers, in whatever later world. -/
def AllIs (r : Value) (es : List Ent) (w : World) : Prop := es.length ≤ 64 ∧ ∀ W, Below w.heap.size w W → Calls Try.prog 15 #[r] W (Clones 40 es.length (flat es) W)

theorem AllIs.of {w : World} {b : Nat} {S : List Nat} {es : List Ent} {cl : Nat → Bool} (h : RBook w b S es cl) : AllIs (.pointer (some ⟨b, 0, none⟩)) es w :=
  ⟨h.small, fun _ hB => rall_any (h.below hB)⟩
theorem AllIs.nil (w : World) : AllIs (.pointer none) [] w := ⟨by simp, fun W _ => rall_nil W⟩

/- Count -/
set_option maxHeartbeats 400000 in
theorem rcount_any {w : World} {r : Value} {es : List Ent} (hall : AllIs r es w) (f : Int) :
    Calls Try.prog 19 #[r, .int .i64 f] w fun e w' => e = .returned (.int .i64 (cnt f es)) ∧ Below w.heap.size w w' := by
  have hsm := hall.1
  have HALL := Lib.hid hall.2
  clear hall
  go_enter Try.func19, Try.ntmps19
  go_wp2_with fail
  refine (HALL.out _ (Below.refl _ _)).mono ?_
  rintro e w1 ⟨v, rfl, hv, hB1⟩
  obtain ⟨av, cv, rfl⟩ : ∃ a c, v = .slice a es.length c := by
    rcases rows_form hv with ⟨rfl, h⟩ | ⟨g, c, rfl, _⟩
    · exact ⟨_, _, by rw [h]⟩
    · exact ⟨_, _, rfl⟩
  have HV := Lib.hid (low_row hv)
  have hcl := cnt_le f es
  clear hv HALL
  go_wp2_with fail
  go_loop [5, 7] (fun c i => ∃ k m : Nat, k ≤ es.length ∧ i = .int .i64 k ∧ c = .int .i64 m ∧ m ≤ es.length ∧ Hid (m + cnt f (es.drop k) = cnt f es)) (fun _ i => es.length - (intOf i).toNat)
  case atStart => exact ⟨0, 0, Nat.zero_le _, rfl, rfl, Nat.zero_le _, by simp [Hid]⟩
  case round =>
    obtain ⟨k, m, hk, rfl, rfl, hm, HC⟩ := hrel
    by_cases hlt : k < es.length
    · obtain ⟨g, rfl, h0, h1, h2, h3⟩ := row_at HV.out (k := k) (e := es[k]) (by simp) hlt
      have hd := drop_at es k hlt
      have hcnt : Hid (cnt f (es.drop k) = (if es[k].fam = f then 1 else 0) + cnt f (es.drop (k + 1))) := by rw [hd]; rfl
      have hm1 : es[k].fam = f → m + 1 ≤ es.length := fun hf => by have h := HC.out; rw [hcnt.out, if_pos hf] at h; omega
      clear hd
      by_cases hf : es[k].fam = f
      · have hb1 : (es[k].fam == f) = true := by simpa using hf
        have hm2 := hm1 hf
        have HF := Lib.hid hf
        clear hf hm1
        go_wp2
        go_round
        case rel => exact ⟨k + 1, m + 1, by omega, by go_num, by go_num, hm2, by have h := HC.out; rw [hcnt.out, if_pos HF.out] at h; unfold Hid; omega⟩
        case measure => simp [intOf]; omega
      · have hb1 : (es[k].fam == f) = false := by simpa using hf
        have HF := Lib.hid hf
        clear hf hm1
        go_wp2
        go_round
        case rel => exact ⟨k + 1, m, by omega, by go_num, rfl, hm, by have h := HC.out; rw [hcnt.out, if_neg HF.out] at h; unfold Hid; omega⟩
        case measure => simp [intOf]; omega
    · go_wp2
      go_ret
      refine ⟨?_, hB1⟩
      have h := HC.out
      rw [List.drop_eq_nil_of_le (by omega)] at h
      simp only [cnt, Nat.add_zero] at h
      exact ret_int (by rw [h])

/- Find -/
set_option maxHeartbeats 400000 in
theorem rfind_any {w : World} {r : Value} {es : List Ent} (hall : AllIs r es w) (f : Int) (nm : ByteArray) :
    Calls Try.prog 26 #[r, .int .i64 f, .string nm] w fun e w' => e = .returned (.int .i64 (findN f nm es)) ∧ Below w.heap.size w w' := by
  have hsm := hall.1
  have HALL := Lib.hid hall.2
  clear hall
  go_enter Try.func26, Try.ntmps26
  go_wp2_with fail
  refine (HALL.out _ (Below.refl _ _)).mono ?_
  rintro e w1 ⟨v, rfl, hv, hB1⟩
  obtain ⟨av, cv, rfl⟩ : ∃ a c, v = .slice a es.length c := by
    rcases rows_form hv with ⟨rfl, h⟩ | ⟨g, c, rfl, _⟩
    · exact ⟨_, _, by rw [h]⟩
    · exact ⟨_, _, rfl⟩
  have HV := Lib.hid (low_row hv)
  clear hv HALL
  go_wp2_with fail
  go_loop [8] (fun i => ∃ k : Nat, k ≤ es.length ∧ i = .int .i64 k ∧ Hid (findN f nm (es.drop k) = findN f nm es)) (fun i => es.length - (intOf i).toNat)
  case atStart => exact ⟨0, Nat.zero_le _, rfl, by simp [Hid]⟩
  case round =>
    obtain ⟨k, hk, rfl, HC⟩ := hrel
    by_cases hlt : k < es.length
    · obtain ⟨g, rfl, h0, h1, h2, h3⟩ := row_at HV.out (k := k) (e := es[k]) (by simp) hlt
      have hd := drop_at es k hlt
      have hcnt : Hid (findN f nm (es.drop k) = if hits f nm es[k] then es[k].num else findN f nm (es.drop (k + 1))) := by rw [hd]; rfl
      clear hd
      go_wp2
      · have a1 : es[k].fam = f := by assumption
        have a2 : (es[k].name.toList == nm.toList) = true := by assumption
        go_ret
        exact ⟨ret_int (by rw [← HC.out, hcnt.out, if_pos (hits_yes a1 a2)]), hB1⟩
      · have a2 : (es[k].name.toList == nm.toList) = false := by assumption
        go_round
        case rel => exact ⟨k + 1, by omega, by go_num, by have h := HC.out; rw [hcnt.out, hits_no a2] at h; exact h⟩
        case measure => simp [intOf]; omega
      · have a1 : ¬ es[k].fam = f := by assumption
        go_round
        case rel => exact ⟨k + 1, by omega, by go_num, by have h := HC.out; rw [hcnt.out, hits_far a1] at h; exact h⟩
        case measure => simp [intOf]; omega
    · go_wp2
      go_ret
      refine ⟨?_, hB1⟩
      have h := HC.out
      rw [List.drop_eq_nil_of_le (by omega)] at h
      exact ret_int (by rw [← h]; rfl)

/- At -/
theorem rresults_ent (tmps : Array Value) (w : World) (B : Nat) (x0 x1 x2 x3 : Value) (hp : tmps.getD 6 undef = .pointer (some ⟨B, 0, none⟩)) (c0 : w.cell? ⟨B, 0, none⟩ = some x0) (c1 : w.cell? ⟨B, 1, none⟩ = some x1)
    (c2 : w.cell? ⟨B, 2, none⟩ = some x2) (c3 : w.cell? ⟨B, 3, none⟩ = some x3) :
    (results Try.f27 tmps).run Try.prog w = .ok (.tuple #[.agg #[x0, x1, x2, x3], tmps.getD 7 undef]) w := by
  rw [results_cell_tmp (ty := 40) (p := 6) (u := 7) Try.results27, hp]
  go_simp

set_option maxHeartbeats 1000000 in
theorem rat_any {w : World} {r : Value} {es : List Ent} (hall : AllIs r es w) (f m : Int) :
    Calls Try.prog 27 #[r, .int .i64 f, .int .i64 m] w (AtIs (findAt f m es) w) := by
  have hsm := hall.1
  have HALL := Lib.hid hall.2
  clear hall
  go_enter Try.func27, Try.ntmps27
  go_wp2_with fail
  refine (HALL.out _ (below_alloc _ _)).mono ?_
  rintro e w1 ⟨v, rfl, hv, hB1⟩
  obtain ⟨av, cv, rfl⟩ : ∃ a c, v = .slice a es.length c := by
    rcases rows_form hv with ⟨rfl, h⟩ | ⟨g, c, rfl, _⟩
    · exact ⟨_, _, by rw [h]⟩
    · exact ⟨_, _, rfl⟩
  have HV := Lib.hid (low_row hv)
  have hblk : w1.heap[w.heap.size]? = some (.cells #[.int .i64 0, .int .i64 0, .string ⟨#[]⟩, .int .i64 0] 40 (0, 0)) := by
    rw [hB1.block _ (by simp)]; exact heap_alloc_new w _
  have hBw : Below w.heap.size w w1 := (below_alloc w _).trans (hB1.mono (by simp))
  have r0 := cell_in hblk 0 (v := .int .i64 0) rfl
  have r1 := cell_in hblk 1 (v := .int .i64 0) rfl
  have r2 := cell_in hblk 2 (v := .string ⟨#[]⟩) rfl
  have r3 := cell_in hblk 3 (v := .int .i64 0) rfl
  have hfz : ∀ o, w1.frozen? ⟨w.heap.size, o, none⟩ = false := fun o => by simp [World.frozen?, hblk]
  have f0 := hfz 0
  have f1 := hfz 1
  have f2 := hfz 2
  have f3 := hfz 3
  clear hv HALL hblk hfz hB1
  go_wp2_with fail
  go_loop [9] (fun i => ∃ k : Nat, k ≤ es.length ∧ i = .int .i64 k ∧ Hid (findAt f m (es.drop k) = findAt f m es)) (fun i => es.length - (intOf i).toNat)
  case atStart => exact ⟨0, Nat.zero_le _, rfl, by simp [Hid]⟩
  case round =>
    obtain ⟨k, hk, rfl, HC⟩ := hrel
    by_cases hlt : k < es.length
    · obtain ⟨g, rfl, h0, h1, h2, h3⟩ := row_at HV.out (k := k) (e := es[k]) (by simp) hlt
      have hd := drop_at es k hlt
      have hcnt : Hid (findAt f m (es.drop k) = if isAt f m es[k] then some es[k] else findAt f m (es.drop (k + 1))) := by rw [hd]; rfl
      clear hd
      go_wp2
      · have a1 : es[k].fam = f := by assumption
        have a2 : (es[k].num == m) = true := by assumption
        obtain ⟨q0, q1, q2, q3⟩ := four_set (w := w1) (.int .i64 f) (.int .i64 es[k].num) (.string es[k].name) (.int .i64 es[k].size) r0 r1 r2 r3
        refine bodyPost_ret (rresults_ent _ _ w.heap.size _ _ _ _ rfl q0 q1 q2 q3) rfl ?_
        refine ⟨?_, (((hBw.setCell (Nat.le_refl _) _).setCell (Nat.le_refl _) _).setCell (Nat.le_refl _) _).setCell (Nat.le_refl _) _⟩
        rw [← HC.out, hcnt.out, if_pos (isAt_yes a1 a2)]
        simp [Ent.val, a1]
      · have a2 : (es[k].num == m) = false := by assumption
        go_round
        case rel => exact ⟨k + 1, by omega, by go_num, by have h := HC.out; rw [hcnt.out, isAt_no a2] at h; exact h⟩
        case measure => simp [intOf]; omega
      · have a1 : ¬ es[k].fam = f := by assumption
        go_round
        case rel => exact ⟨k + 1, by omega, by go_num, by have h := HC.out; rw [hcnt.out, isAt_far a1] at h; exact h⟩
        case measure => simp [intOf]; omega
    · go_wp2
      obtain ⟨q0, q1, q2, q3⟩ := four_set (w := w1) (.int .i64 0) (.int .i64 0) (.string ⟨#[]⟩) (.int .i64 0) r0 r1 r2 r3
      refine bodyPost_ret (rresults_ent _ _ w.heap.size _ _ _ _ rfl q0 q1 q2 q3) rfl ?_
      refine ⟨?_, (((hBw.setCell (Nat.le_refl _) _).setCell (Nat.le_refl _) _).setCell (Nat.le_refl _) _).setCell (Nat.le_refl _) _⟩
      rw [← HC.out, List.drop_eq_nil_of_le (by omega)]
      rfl

end Go.Proofs.Ytgdeeojamnbakaa
