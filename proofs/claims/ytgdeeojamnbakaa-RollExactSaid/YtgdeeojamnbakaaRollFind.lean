/- The walks of the questions of a book: Count, Find, At. -/
import Derived.Test.YtgdeeojamnbakaaRollPure
import Derived.Test.YtgdeeojamnbakaaRows
namespace Go.Proofs.Ytgdeeojamnbakaa
open Go.RowKit

set_option maxHeartbeats 400000 in
theorem count_some (b g n cap : Nat) (es : List Ent) (f : Int) (w : World) (hlen : n = es.length) (hn : n ≤ maxLen) (hg : g < w.heap.size)
   (hv : w.cell? ⟨b, 0, none⟩ = some (.slice (some ⟨g, 0, none⟩) n cap)) (hown : w.ownsRow 0 40 4 (.slice (some ⟨g, 0, none⟩) n cap) n (flat es)) :
    Calls Try.prog 18 #[.pointer (some ⟨b, 0, none⟩), .int .i64 f] w fun e w' => e = .returned (.int .i64 (cnt f es)) ∧ Below w.heap.size w w' := by
  unfold maxLen at hn
  have hcl := cnt_le f es
  have hlen1 : n ≤ es.length := by omega
  have hlen2 : es.length ≤ n := by omega
  clear hlen
  have HO := Lib.hid hown
  clear hown
  go_enter Try.func18, Try.ntmps18
  go_wp2
  go_loopw [5, 15] (fun c i wr => ∃ k m : Nat, k ≤ n ∧ i = .int .i64 k ∧ c = .int .i64 m ∧ m ≤ n ∧ Hid (m + cnt f (es.drop k) = cnt f es) ∧ Below w.heap.size w wr) (fun _ i _ => n - (intOf i).toNat)
  case atStart => exact ⟨0, 0, Nat.zero_le _, rfl, rfl, Nat.zero_le _, by simp [Hid], Below.refl _ _⟩
  case round =>
    obtain ⟨k, m, hk, rfl, rfl, hm, HC, hB⟩ := hrel
    by_cases hlt : k < n
    · have hd := drop_at es k (by omega)
      have hce := HO.out
      obtain ⟨h0, h1, h2, h3⟩ := rows_at hce (k := k) (e := es[k]) (by simp)
      clear hce
      rw [← hB.cell (p := ⟨g, _, none⟩) hg] at h0 h1 h2 h3
      have hcnt : Hid (cnt f (es.drop k) = (if es[k].fam = f then 1 else 0) + cnt f (es.drop (k + 1))) := by rw [hd]; rfl
      have hm1 : es[k].fam = f → m + 1 ≤ n := fun hf => by have h := HC.out; rw [hcnt.out, if_pos hf] at h; omega
      clear hd
      have hz := hB.size
      by_cases hf : es[k].fam = f
      · have hb1 : (es[k].fam == f) = true := by simpa using hf
        have hm2 := hm1 hf
        have HF := Lib.hid hf
        clear hf hm1
        go_wp2
        go_roundw
        case rel => exact ⟨k + 1, m + 1, by omega, by go_num, by go_num, hm2, by have h := HC.out; rw [hcnt.out, if_pos HF.out] at h; unfold Hid; omega, hB.alloc hz _⟩
        case measure => simp [intOf]; omega
      · have hb1 : (es[k].fam == f) = false := by simpa using hf
        have HF := Lib.hid hf
        clear hf hm1
        go_wp2
        go_roundw
        case rel => exact ⟨k + 1, m, by omega, by go_num, rfl, hm, by have h := HC.out; rw [hcnt.out, if_neg HF.out] at h; unfold Hid; omega, hB.alloc hz _⟩
        case measure => simp [intOf]; omega
    · go_wp2
      go_ret
      refine ⟨?_, hB⟩
      have h := HC.out
      rw [List.drop_eq_nil_of_le (by omega)] at h
      simp only [cnt, Nat.add_zero] at h
      exact ret_int (by rw [h])

set_option maxHeartbeats 400000 in
theorem count_none (b : Nat) (f : Int) (w : World) (hv : w.cell? ⟨b, 0, none⟩ = some (.slice none 0 0)) :
    Calls Try.prog 18 #[.pointer (some ⟨b, 0, none⟩), .int .i64 f] w fun e w' => e = .returned (.int .i64 0) ∧ Below w.heap.size w w' := by
  go_enter Try.func18, Try.ntmps18
  go_wp2
  go_rounds 1
  go_ret
  exact ⟨rfl, Below.refl _ _⟩

theorem count_any {w : World} {b : Nat} {S : List Nat} {es : List Ent} {cl : Nat → Bool} (h : Book w b S es cl) (f : Int) :
    Calls Try.prog 18 #[.pointer (some ⟨b, 0, none⟩), .int .i64 f] w fun e w' => e = .returned (.int .i64 (cnt f es)) ∧ Below w.heap.size w w' := by
  obtain ⟨v, hh, hr, ha, rfl, h64⟩ := h
  have hv := cell_in hh 0 (v := v) rfl
  rcases rows_form hr with ⟨rfl, h0⟩ | ⟨g, cap, rfl, hg, hc, hm⟩
  · obtain rfl := List.eq_nil_of_length_eq_zero h0
    exact count_none b f w hv
  · exact count_some b g _ cap es f w rfl (by omega) hg hv hr

set_option maxHeartbeats 400000 in
theorem count_nil (f : Int) (w : World) : Calls Try.prog 18 #[.pointer none, .int .i64 f] w fun e w' => e = .returned (.int .i64 0) ∧ w = w' := by
  go_enter Try.func18, Try.ntmps18
  go_wp2
  go_ret
  exact ⟨rfl, rfl⟩

/- Find -/

set_option maxHeartbeats 400000 in
theorem find_some (b g n cap : Nat) (es : List Ent) (f : Int) (nm : ByteArray) (w : World) (hlen : n = es.length) (hn : n ≤ maxLen) (hg : g < w.heap.size)
   (hv : w.cell? ⟨b, 0, none⟩ = some (.slice (some ⟨g, 0, none⟩) n cap)) (hown : w.ownsRow 0 40 4 (.slice (some ⟨g, 0, none⟩) n cap) n (flat es)) :
    Calls Try.prog 21 #[.pointer (some ⟨b, 0, none⟩), .int .i64 f, .string nm] w fun e w' => e = .returned (.int .i64 (findN f nm es)) ∧ Below w.heap.size w w' := by
  unfold maxLen at hn
  have hlen1 : n ≤ es.length := by omega
  have hlen2 : es.length ≤ n := by omega
  clear hlen
  have HO := Lib.hid hown
  clear hown
  go_enter Try.func21, Try.ntmps21
  go_wp2
  go_loopw [16] (fun i wr => ∃ k : Nat, k ≤ n ∧ i = .int .i64 k ∧ Hid (findN f nm (es.drop k) = findN f nm es) ∧ Below w.heap.size w wr) (fun i _ => n - (intOf i).toNat)
  case atStart => exact ⟨0, Nat.zero_le _, rfl, by simp [Hid], Below.refl _ _⟩
  case round =>
    obtain ⟨k, hk, rfl, HC, hB⟩ := hrel
    by_cases hlt : k < n
    · have hd := drop_at es k (by omega)
      have hce := HO.out
      obtain ⟨h0, h1, h2, h3⟩ := rows_at hce (k := k) (e := es[k]) (by simp)
      clear hce
      rw [← hB.cell (p := ⟨g, _, none⟩) hg] at h0 h1 h2 h3
      have hcnt : Hid (findN f nm (es.drop k) = if hits f nm es[k] then es[k].num else findN f nm (es.drop (k + 1))) := by rw [hd]; rfl
      clear hd
      have hz := hB.size
      go_wp2
      · have a1 : es[k].fam = f := by assumption
        have a2 : (es[k].name.toList == nm.toList) = true := by assumption
        go_ret
        exact ⟨ret_int (by rw [← HC.out, hcnt.out, if_pos (hits_yes a1 a2)]), hB.alloc hz _⟩
      · have a2 : (es[k].name.toList == nm.toList) = false := by assumption
        go_roundw
        case rel => exact ⟨k + 1, by omega, by go_num, by have h := HC.out; rw [hcnt.out, hits_no a2] at h; exact h, hB.alloc hz _⟩
        case measure => simp [intOf]; omega
      · have a1 : ¬ es[k].fam = f := by assumption
        go_roundw
        case rel => exact ⟨k + 1, by omega, by go_num, by have h := HC.out; rw [hcnt.out, hits_far a1] at h; exact h, hB.alloc hz _⟩
        case measure => simp [intOf]; omega
    · go_wp2
      go_ret
      refine ⟨?_, hB⟩
      have h := HC.out
      rw [List.drop_eq_nil_of_le (by omega)] at h
      exact ret_int (by rw [← h]; rfl)

set_option maxHeartbeats 400000 in
theorem find_none (b : Nat) (f : Int) (nm : ByteArray) (w : World) (hv : w.cell? ⟨b, 0, none⟩ = some (.slice none 0 0)) :
    Calls Try.prog 21 #[.pointer (some ⟨b, 0, none⟩), .int .i64 f, .string nm] w fun e w' => e = .returned (.int .i64 0) ∧ Below w.heap.size w w' := by
  go_enter Try.func21, Try.ntmps21
  go_wp2
  go_rounds 1
  go_ret
  exact ⟨rfl, Below.refl _ _⟩

theorem find_any {w : World} {b : Nat} {S : List Nat} {es : List Ent} {cl : Nat → Bool} (h : Book w b S es cl) (f : Int) (nm : ByteArray) :
    Calls Try.prog 21 #[.pointer (some ⟨b, 0, none⟩), .int .i64 f, .string nm] w fun e w' => e = .returned (.int .i64 (findN f nm es)) ∧ Below w.heap.size w w' := by
  obtain ⟨v, hh, hr, ha, rfl, h64⟩ := h
  have hv := cell_in hh 0 (v := v) rfl
  rcases rows_form hr with ⟨rfl, h0⟩ | ⟨g, cap, rfl, hg, hc, hm⟩
  · obtain rfl := List.eq_nil_of_length_eq_zero h0
    exact find_none b f nm w hv
  · exact find_some b g _ cap es f nm w rfl (by omega) hg hv hr

set_option maxHeartbeats 400000 in
theorem find_nil (f : Int) (nm : ByteArray) (w : World) : Calls Try.prog 21 #[.pointer none, .int .i64 f, .string nm] w fun e w' => e = .returned (.int .i64 0) ∧ w = w' := by
  go_enter Try.func21, Try.ntmps21
  go_wp2
  go_ret
  exact ⟨rfl, rfl⟩

/- At -/

def AtIs (o : Option Ent) (w : World) (e : Ending) (w' : World) : Prop := e = .returned (.tuple #[(o.getD Ent.none).val, .bool o.isSome]) ∧ Below w.heap.size w w'

theorem results_ent (tmps : Array Value) (w : World) (B : Nat) (x0 x1 x2 x3 : Value) (hp : tmps.getD 6 undef = .pointer (some ⟨B, 0, none⟩)) (c0 : w.cell? ⟨B, 0, none⟩ = some x0) (c1 : w.cell? ⟨B, 1, none⟩ = some x1)
    (c2 : w.cell? ⟨B, 2, none⟩ = some x2) (c3 : w.cell? ⟨B, 3, none⟩ = some x3) :
    (results Try.f23 tmps).run Try.prog w = .ok (.tuple #[.agg #[x0, x1, x2, x3], tmps.getD 7 undef]) w := by
  rw [results_cell_tmp (ty := 40) (p := 6) (u := 7) Try.results23, hp]
  go_simp

set_option maxHeartbeats 400000 in
theorem at_some (b g n cap : Nat) (es : List Ent) (f m : Int) (w : World) (hlen : n = es.length) (hn : n ≤ maxLen) (hg : g < w.heap.size) (hb : b < w.heap.size)
   (hv : w.cell? ⟨b, 0, none⟩ = some (.slice (some ⟨g, 0, none⟩) n cap)) (hown : w.ownsRow 0 40 4 (.slice (some ⟨g, 0, none⟩) n cap) n (flat es)) :
    Calls Try.prog 23 #[.pointer (some ⟨b, 0, none⟩), .int .i64 f, .int .i64 m] w (AtIs (findAt f m es) w) := by
  unfold maxLen at hn
  have hlen1 : n ≤ es.length := by omega
  have hlen2 : es.length ≤ n := by omega
  clear hlen
  have HO := Lib.hid hown
  clear hown
  go_enter Try.func23, Try.ntmps23
  go_wp2
  obtain ⟨w0, hw0⟩ : ∃ w0, w0 = w.alloc (.cells #[.int .i64 0, .int .i64 0, .string ⟨#[]⟩, .int .i64 0] 40) := ⟨_, rfl⟩
  have hsz0 : w.heap.size + 1 ≤ w0.heap.size := by rw [hw0]; simp
  have hB0 : Below w.heap.size w w0 := by rw [hw0]; exact (Below.refl _ _).alloc (Nat.le_refl _) _
  have hblk : w0.heap[w.heap.size]? = some (.cells #[.int .i64 0, .int .i64 0, .string ⟨#[]⟩, .int .i64 0] 40 (0, 0)) := by rw [hw0]; exact heap_alloc_new w _
  have HBLK := Lib.hid hblk
  clear hblk
  rw [← hw0]
  clear hw0
  go_loopw [18] (fun i wr => ∃ k : Nat, k ≤ n ∧ i = .int .i64 k ∧ Hid (findAt f m (es.drop k) = findAt f m es) ∧ Below (w.heap.size + 1) w0 wr) (fun i _ => n - (intOf i).toNat)
  case atStart => exact ⟨0, Nat.zero_le _, rfl, by simp [Hid], Below.refl _ _⟩
  case round =>
    obtain ⟨k, hk, rfl, HC, hB⟩ := hrel
    have hBw : Below w.heap.size w wr := hB0.trans (hB.mono (by omega))
    have hz := hBw.size
    have hblk2 : wr.heap[w.heap.size]? = some (.cells #[.int .i64 0, .int .i64 0, .string ⟨#[]⟩, .int .i64 0] 40 (0, 0)) := by rw [hB.block _ (by omega)]; exact HBLK.out
    have r0 := cell_in hblk2 0 (v := .int .i64 0) rfl
    have r1 := cell_in hblk2 1 (v := .int .i64 0) rfl
    have r2 := cell_in hblk2 2 (v := .string ⟨#[]⟩) rfl
    have r3 := cell_in hblk2 3 (v := .int .i64 0) rfl
    have hfz : ∀ o, wr.frozen? ⟨w.heap.size, o, none⟩ = false := fun o => by simp [World.frozen?, hblk2]
    have f0 := hfz 0
    have f1 := hfz 1
    have f2 := hfz 2
    have f3 := hfz 3
    have hz2 : w.heap.size < wr.heap.size := lt_of_block hblk2
    clear hblk2 hfz
    by_cases hlt : k < n
    · have hd := drop_at es k (by omega)
      have hce := HO.out
      obtain ⟨h0, h1, h2, h3⟩ := rows_at hce (k := k) (e := es[k]) (by simp)
      clear hce
      rw [← hBw.cell (p := ⟨g, _, none⟩) hg] at h0 h1 h2 h3
      have hcnt : Hid (findAt f m (es.drop k) = if isAt f m es[k] then some es[k] else findAt f m (es.drop (k + 1))) := by rw [hd]; rfl
      clear hd
      go_wp2
      · have a1 : es[k].fam = f := by assumption
        have a2 : (es[k].num == m) = true := by assumption
        obtain ⟨q0, q1, q2, q3⟩ := four_set (w := wr) (.int .i64 f) (.int .i64 es[k].num) (.string es[k].name) (.int .i64 es[k].size) r0 r1 r2 r3
        refine bodyPost_ret (results_ent _ _ w.heap.size _ _ _ _ rfl (cell_new q0 _) (cell_new q1 _) (cell_new q2 _) (cell_new q3 _)) rfl ?_
        refine ⟨?_, ((((hBw.setCell (Nat.le_refl _) _).setCell (Nat.le_refl _) _).setCell (Nat.le_refl _) _).setCell (Nat.le_refl _) _).alloc (by simpa using hz) _⟩
        rw [← HC.out, hcnt.out, if_pos (isAt_yes a1 a2)]
        simp [Ent.val, a1]
      · have a2 : (es[k].num == m) = false := by assumption
        go_roundw
        case rel => exact ⟨k + 1, by omega, by go_num, by have h := HC.out; rw [hcnt.out, isAt_no a2] at h; exact h, hB.alloc hz2 _⟩
        case measure => simp [intOf]; omega
      · have a1 : ¬ es[k].fam = f := by assumption
        go_roundw
        case rel => exact ⟨k + 1, by omega, by go_num, by have h := HC.out; rw [hcnt.out, isAt_far a1] at h; exact h, hB.alloc hz2 _⟩
        case measure => simp [intOf]; omega
    · go_wp2
      obtain ⟨q0, q1, q2, q3⟩ := four_set (w := wr) (.int .i64 0) (.int .i64 0) (.string ⟨#[]⟩) (.int .i64 0) r0 r1 r2 r3
      refine bodyPost_ret (results_ent _ _ w.heap.size _ _ _ _ rfl q0 q1 q2 q3) rfl ?_
      refine ⟨?_, (((hBw.setCell (Nat.le_refl _) _).setCell (Nat.le_refl _) _).setCell (Nat.le_refl _) _).setCell (Nat.le_refl _) _⟩
      rw [← HC.out, List.drop_eq_nil_of_le (by omega)]
      rfl

end Go.Proofs.Ytgdeeojamnbakaa
