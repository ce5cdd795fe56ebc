/- The walks of refusal and Enter. -/
import Derived.Test.YtgdeeojamnbakaaRollAsk
import Derived.Deep.RegionLaw
import Derived.Deep.AppendLies
namespace Go.Proofs.Ytgdeeojamnbakaa
open Go.RowKit

/-- Why Enter refuses; 0: it doesn't. -/
def why (es : List Ent) (cl : Nat → Bool) (f : Int) (nm : ByteArray) (sz : Int) : Int :=
  if (famOk f && nameOk nm && decide (0 ≤ sz)) = false then 1 else if cl f.toNat = true then 10 else if findN f nm es ≠ 0 then 11 else if 64 ≤ es.length then 12 else 0

theorem why_small {es : List Ent} {cl : Nat → Bool} {f : Int} {nm : ByteArray} {sz : Int} (h : why es cl f nm sz = 0) : es.length < 64 := by
  unfold why at h
  split at h
  · omega
  split at h
  · omega
  split at h
  · omega
  split at h
  · omega
  omega

theorem why_name {es : List Ent} {cl : Nat → Bool} {f : Int} {nm : ByteArray} {sz : Int} (h : why es cl f nm sz = 0) : nm.size ≤ 16 := by
  unfold why at h
  split at h
  · omega
  · rename_i h1
    simp only [Bool.not_eq_false, Bool.and_eq_true, nameOk, decide_eq_true_eq] at h1
    omega

set_option maxHeartbeats 400000 in
theorem refusal_nil (f : Int) (nm : ByteArray) (sz : Int) (w : World) :
    Calls Try.prog 31 #[.pointer none, .int .i64 f, .string nm, .int .i64 sz] w fun e w' => e = .returned (.int .i64 4) ∧ w = w' := by
  go_enter Try.func31, Try.ntmps31
  go_wp2
  go_ret
  exact ⟨rfl, rfl⟩

set_option maxHeartbeats 400000 in
theorem refusal_any {w : World} {b : Nat} {S : List Nat} {es : List Ent} {cl : Nat → Bool} (h : Book w b S es cl) (f : Int) (nm : ByteArray) (sz : Int) (hs : nm.size ≤ maxLen) :
    Calls Try.prog 31 #[.pointer (some ⟨b, 0, none⟩), .int .i64 f, .string nm, .int .i64 sz] w fun e w' => e = .returned (.int .i64 (why es cl f nm sz)) ∧ Below w.heap.size w w' := by
  have HB := Lib.hid h
  clear h
  cases hf : famOk f
  · have hw : why es cl f nm sz = 1 := by simp [why, hf]
    have HW := Lib.hid hw
    have HT := Lib.hid hf
    clear hw hf
    go_enter Try.func31, Try.ntmps31
    go_wp2_with (go_at_call 29; refine (isFamily_any _ _).mono ?_; rintro e w' ⟨rfl, rfl⟩; rw [HT.out])
    go_ret
    exact ⟨ret_int HW.out.symm, Below.refl _ _⟩
  · have HT := Lib.hid hf
    cases hn : nameOk nm
    · have hw : why es cl f nm sz = 1 := by simp [why, hf, hn]
      have HW := Lib.hid hw
      have HN := Lib.hid hn
      clear hw hf hn
      go_enter Try.func31, Try.ntmps31
      go_wp2_with (first | (go_at_call 29; refine (isFamily_any _ _).mono ?_; rintro e w' ⟨rfl, rfl⟩; rw [HT.out]) | (go_at_call 34; refine (isName_any _ _ hs).mono ?_; rintro e w' ⟨rfl, rfl⟩; rw [HN.out]))
      go_ret
      exact ⟨ret_int HW.out.symm, Below.refl _ _⟩
    · have HN := Lib.hid hn
      by_cases h0 : 0 ≤ sz
      · have hf5 : 1 ≤ f ∧ f ≤ 5 := by simpa [famOk] using hf
        obtain ⟨hf1, hf2⟩ := hf5
        obtain ⟨j, rfl⟩ := Int.eq_ofNat_of_zero_le (a := f) (by omega)
        have hc := HB.out.flag j (by omega)
        cases hcl : cl j
        · rw [hcl] at hc
          by_cases hfi : findN ((j : Nat) : Int) nm es = 0
          · obtain ⟨v, hh, hr, ha, hS, h64⟩ := HB.out
            have hv := cell_in hh 0 (v := v) rfl
            have hb := lt_of_block hh
            have hlen : ∃ a c, v = .slice a es.length c := by
              rcases rows_form hr with ⟨rfl, he⟩ | ⟨g, cap, rfl, _⟩
              · exact ⟨_, _, by rw [he]⟩
              · exact ⟨_, _, rfl⟩
            obtain ⟨a, c, rfl⟩ := hlen
            have hw : why es cl j nm sz = if 64 ≤ es.length then 12 else 0 := by simp [why, hf, hn, h0, hcl, hfi]
            have HW := Lib.hid hw
            have HF := Lib.hid hfi
            clear hw hf hn hcl hfi hh hr ha hS
            go_enter Try.func31, Try.ntmps31
            go_wp2_with (first | (go_at_call 29; refine (isFamily_any _ _).mono ?_; rintro e w' ⟨rfl, rfl⟩; rw [HT.out]) | (go_at_call 34; refine (isName_any _ _ hs).mono ?_; rintro e w' ⟨rfl, rfl⟩; rw [HN.out]) | (go_at_call 21; refine (find_any HB.out _ _).mono ?_; rintro e w' ⟨rfl, hB⟩; rw [HF.out]; rw [← hB.cell (p := ⟨b, 0, none⟩) hb] at hv))
            · go_ret
              exact ⟨ret_int (by rw [HW.out, if_pos (by omega)]), by assumption⟩
            · go_ret
              exact ⟨ret_int (by rw [HW.out, if_neg (by omega)]), by assumption⟩
          · have hw : why es cl j nm sz = 11 := by simp [why, hf, hn, h0, hcl, hfi]
            have hne : (findN ((j : Nat) : Int) nm es != 0) = true := by simpa using hfi
            have HW := Lib.hid hw
            clear hw hf hn hcl hfi
            go_enter Try.func31, Try.ntmps31
            go_wp2_with (first | (go_at_call 29; refine (isFamily_any _ _).mono ?_; rintro e w' ⟨rfl, rfl⟩; rw [HT.out]) | (go_at_call 34; refine (isName_any _ _ hs).mono ?_; rintro e w' ⟨rfl, rfl⟩; rw [HN.out]) | (go_at_call 21; refine (find_any HB.out _ _).mono ?_; rintro e w' ⟨rfl, hB⟩))
            go_ret
            exact ⟨ret_int HW.out.symm, by assumption⟩
        · rw [hcl] at hc
          have hw : why es cl j nm sz = 10 := by simp [why, hf, hn, h0, hcl]
          have HW := Lib.hid hw
          clear hw hf hn hcl
          go_enter Try.func31, Try.ntmps31
          go_wp2_with (first | (go_at_call 29; refine (isFamily_any _ _).mono ?_; rintro e w' ⟨rfl, rfl⟩; rw [HT.out]) | (go_at_call 34; refine (isName_any _ _ hs).mono ?_; rintro e w' ⟨rfl, rfl⟩; rw [HN.out]))
          go_ret
          exact ⟨ret_int HW.out.symm, Below.refl _ _⟩
      · have hw : why es cl f nm sz = 1 := by simp [why, hf, hn, h0]
        have HW := Lib.hid hw
        have hlt : sz < 0 := by omega
        clear hw hf hn h0
        go_enter Try.func31, Try.ntmps31
        go_wp2_with (first | (go_at_call 29; refine (isFamily_any _ _).mono ?_; rintro e w' ⟨rfl, rfl⟩; rw [HT.out]) | (go_at_call 34; refine (isName_any _ _ hs).mono ?_; rintro e w' ⟨rfl, rfl⟩; rw [HN.out]))
        go_ret
        exact ⟨ret_int HW.out.symm, Below.refl _ _⟩

set_option maxHeartbeats 400000 in
theorem strClone_any (s : ByteArray) (w : World) (hs : s.size ≤ 281474976710656) :
    Calls Try.prog 32 #[.string s] w fun e w' => e = .returned (.string s) ∧ Below w.heap.size w w' := by
  go_enter Try.func32, Try.ntmps32
  go_wp2_with (go_at_call 35; refine (Try.stringslite_Clone _ _ hs).mono ?_; rintro e w' ⟨rfl, hB⟩)
  go_ret
  exact ⟨rfl, hB⟩

/-- What Enter answers, and the book behind it. -/
def Enters (b : Nat) (S : List Nat) (es : List Ent) (cl : Nat → Bool) (f : Int) (nm : ByteArray) (sz : Int) (w : World) (e : Ending) (w' : World) : Prop :=
  ∃ S' es' n, e = .returned (.tuple #[.int .i64 n, .int .i64 (why es cl f nm sz)]) ∧ Book w' b S' es' cl ∧ Only S w w' ∧ (∀ k ∈ S', k ∈ S ∨ w.heap.size ≤ k) ∧
    ((why es cl f nm sz = 0 ∧ n = cnt f es + 1 ∧ es' = es ++ [⟨f, cnt f es + 1, nm, sz⟩]) ∨ (why es cl f nm sz ≠ 0 ∧ n = 0 ∧ es' = es))

set_option maxHeartbeats 400000 in
theorem enter_no {w : World} {b : Nat} {S : List Nat} {es : List Ent} {cl : Nat → Bool} (h : Book w b S es cl) (f : Int) (nm : ByteArray) (sz : Int) (hs : nm.size ≤ maxLen) (hw : why es cl f nm sz ≠ 0) :
    Calls Try.prog 22 #[.pointer (some ⟨b, 0, none⟩), .int .i64 f, .string nm, .int .i64 sz] w (Enters b S es cl f nm sz w) := by
  have HB := Lib.hid h
  have HW := Lib.hid hw
  have hne : (why es cl f nm sz != 0) = true := by simpa using hw
  clear h hw
  go_enter Try.func22, Try.ntmps22
  go_wp2_with (go_at_call 31; refine (refusal_any HB.out _ _ _ hs).mono ?_; rintro e w' ⟨rfl, hB⟩)
  go_ret2
  exact ⟨S, es, 0, rfl, HB.out.below hB, Only.of_below _ hB, fun k hk => .inl hk, .inr ⟨HW.out, rfl, rfl⟩⟩

set_option maxHeartbeats 1000000 in
theorem enter_yes {w : World} {b : Nat} {S : List Nat} {es : List Ent} {cl : Nat → Bool} (h : Book w b S es cl) (f : Int) (nm : ByteArray) (sz : Int) (hs : nm.size ≤ maxLen) (hw : why es cl f nm sz = 0) :
    Calls Try.prog 22 #[.pointer (some ⟨b, 0, none⟩), .int .i64 f, .string nm, .int .i64 sz] w (Enters b S es cl f nm sz w) := by
  have HB := Lib.hid h
  have HW := Lib.hid hw
  have hcl := cnt_le f es
  have h64 := h.small
  have h16 : nm.size ≤ 281474976710656 := Nat.le_trans (why_name hw) (by decide)
  clear h hw
  go_enter Try.func22, Try.ntmps22
  go_wp2_with (first | (go_at_call 31; refine (refusal_any HB.out _ _ _ hs).mono ?_; rintro e w1 ⟨rfl, hB1⟩; rw [HW.out]) | (go_at_call 18; refine (count_any (HB.out.below hB1) _).mono ?_; rintro e w2 ⟨rfl, hB2⟩))
  have HB2 := Lib.hid (HB.out.below (hB1.trans (hB2.mono hB1.size)))
  obtain ⟨v, hh, hr, ha, hS, _⟩ := HB2.out
  have hb2 := lt_of_block hh
  have hv := cell_in hh 0 (v := v) rfl
  have hf0 : w2.frozen? ⟨b, 0, none⟩ = false := by simp [World.frozen?, hh]
  have HH := Lib.hid hh
  have HR := Lib.hid hr
  have HA := Lib.hid ha
  have HS := Lib.hid hS
  clear hh hr ha hS
  obtain ⟨i0, hi, hz0, hz1, hz2⟩ := info_parts infoEnt
  have HI := Lib.hid hi
  have HZ := Lib.hid (And.intro hz0 (And.intro hz1 hz2))
  clear hi hz0 hz1 hz2
  go_region_law (first
    | (refine step_append_lies _ (by rfl) _ _ _ (by rfl) 0 40 i0 _ 4 40 Try.underlying35 HI.out HZ.out.1 HZ.out.2.1 HZ.out.2.2 rfl (by omega) v es.length (flat es) (by rfl) (HR3.out.alloc _) ⟨w3.heap.size, 0, none⟩ 1 1 (flat [⟨f, cnt f es + 1, nm, sz⟩]) (by rfl) (by rfl) (World.news_of_block (cs := (flat [⟨f, cnt f es + 1, nm, sz⟩]).toArray) (t := 40) (fr := (0, 0)) (heap_alloc_new w3 _)) (flat_one _) (by omega) (by simp only [maxLen]; omega) (by omega) (by simp) (w3.heap.size + 1) (by simp) ?_
       intro gg cap w4 hown4 hgrow hat hlt
       have hv4 : w4.cell? ⟨b, 0, none⟩ = some v := (hgrow.cell_far ⟨b, 0, none⟩ (by simp; omega) (Ne.symm HA.out)).trans (cell_new hv3 _)
       have hf4 : w4.frozen? ⟨b, 0, none⟩ = false := (hgrow.frozen_far ⟨b, 0, none⟩ (by simp; omega) (Ne.symm HA.out)).trans (frozen_new (a := ⟨b, 0, none⟩) hb3 hf3 _))
    | (go_simp
       go_at_call 32
       refine (strClone_any _ _ h16).mono ?_
       rintro e w3 ⟨rfl, hB3⟩
       have hb3 : b < w3.heap.size := Nat.lt_of_lt_of_le hb2 hB3.size
       have hv3 : w3.cell? ⟨b, 0, none⟩ = some v := (hB3.cell (p := ⟨b, 0, none⟩) hb2).trans hv
       have hf3 : w3.frozen? ⟨b, 0, none⟩ = false := (hB3.frozen (p := ⟨b, 0, none⟩) hb2).trans hf0
       have HR3 := Lib.hid (rows_kept HR.out (fun g hg => hB3.block g (HR.out.lt _ hg).2))))
  all_goals
    go_wp2
    go_ret2
    have hB13 : Below w.heap.size w w3 := (hB1.trans (hB2.mono hB1.size)).drew.trans (hB3.mono (Nat.le_trans hB1.size hB2.size))
    obtain ⟨hk, ho, hm⟩ := (HB.out.below hB13).grown (why_small HW.out) ⟨f, cnt f es + 1, nm, sz⟩ _ v hv3 hgrow gg cap hown4 hat
    exact ⟨_, _, _, ret_pair rfl HW.out.symm, hk, Only.same (Only.of_below _ hB13) ho, fun k hk => (hm k hk).imp id (fun h => Nat.le_trans hB13.size h), .inl ⟨HW.out, rfl, rfl⟩⟩

theorem enter_any {w : World} {b : Nat} {S : List Nat} {es : List Ent} {cl : Nat → Bool} (h : Book w b S es cl) (f : Int) (nm : ByteArray) (sz : Int) (hs : nm.size ≤ maxLen) :
    Calls Try.prog 22 #[.pointer (some ⟨b, 0, none⟩), .int .i64 f, .string nm, .int .i64 sz] w (Enters b S es cl f nm sz w) := by
  by_cases hw : why es cl f nm sz = 0
  · exact enter_yes h f nm sz hs hw
  · exact enter_no h f nm sz hs hw

set_option maxHeartbeats 400000 in
theorem enter_nil (f : Int) (nm : ByteArray) (sz : Int) (w : World) :
    Calls Try.prog 22 #[.pointer none, .int .i64 f, .string nm, .int .i64 sz] w fun e w' => e = .returned (.tuple #[.int .i64 0, .int .i64 4]) ∧ w = w' := by
  go_enter Try.func22, Try.ntmps22
  go_wp2_with (go_at_call 31; refine (refusal_nil _ _ _ _).mono ?_; rintro e w' ⟨rfl, rfl⟩)
  go_ret2
  exact ⟨rfl, rfl⟩

end Go.Proofs.Ytgdeeojamnbakaa
