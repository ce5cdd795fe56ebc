/- The walks of the reference's Open, Close, Enter. -/
import Derived.Test.YtgdeeojamnbakaaRefAsk
namespace Go.Proofs.Ytgdeeojamnbakaa
open Go.RowKit

/-- The cells of the list of closed families. -/
theorem ints_at {w : World} {B g n cap : Nat} {t : TypeId} {cs : List Int} (h : w.ownsRow B t 1 (.slice (some ⟨g, 0, none⟩) n cap) n (ints cs)) {k : Nat} {c : Int} (hk : cs[k]? = some c) : w.cell? ⟨g, k, none⟩ = some (.int .i64 c) := by
  have hc := h.cells (g := g) rfl k (.int .i64 c) (by simp [ints, hk])
  have ha : ((⟨g, 0, none⟩ : Addr).add k) = ⟨g, k, none⟩ := by unfold Addr.add; split <;> simp_all
  rw [ha] at hc
  exact hc

theorem ints_form {w : World} {base : Nat} {t : TypeId} {v : Value} {n : Nat} {xs : List Value} (h : w.ownsRow base t 1 v n xs) :
    (v = .slice none 0 0 ∧ n = 0) ∨ ∃ g cap, v = .slice (some ⟨g, 0, none⟩) n cap ∧ g < w.heap.size ∧ n ≤ cap ∧ cap ≤ maxLen := by
  rcases h.2 with hn | ⟨g, cap, cur, rfl, hb, hg, hc, hm, _⟩
  · exact .inl hn
  · exact .inr ⟨g, cap, rfl, lt_of_block hg, hc, hm⟩

def memB (f : Int) : List Int → Bool
  | [] => false
  | c :: r => c == f || memB f r

theorem memB_iff (f : Int) (cs : List Int) : memB f cs = true ↔ f ∈ cs := by
  induction cs with
  | nil => simp [memB]
  | cons c r ih =>
    simp only [memB, Bool.or_eq_true, beq_iff_eq, ih, List.mem_cons]
    constructor
    · rintro (h | h)
      · exact .inl h.symm
      · exact .inr h
    · rintro (h | h)
      · exact .inl h.symm
      · exact .inr h

set_option maxHeartbeats 400000 in
theorem ropen_nil (f : Int) (w : World) : Calls Try.prog 17 #[.pointer none, .int .i64 f] w fun e w' => e = .returned (.bool false) ∧ w = w' := by
  go_enter Try.func17, Try.ntmps17
  go_wp2
  go_ret
  exact ⟨rfl, rfl⟩

set_option maxHeartbeats 1000000 in
theorem ropen_any {w : World} {b : Nat} {S : List Nat} {es : List Ent} {cl : Nat → Bool} (h : RBook w b S es cl) (f : Int) :
    Calls Try.prog 17 #[.pointer (some ⟨b, 0, none⟩), .int .i64 f] w fun e w' => e = .returned (.bool (openF cl f)) ∧ w = w' := by
  cases ht : famOk f
  · have ho : openF cl f = false := by simp [openF, ht]
    have HO := Lib.hid ho
    have HT := Lib.hid ht
    clear ht ho h
    go_enter Try.func17, Try.ntmps17
    go_wp2_with (go_at_call 30; refine (family_any _ _).mono ?_; rintro e w' ⟨rfl, rfl⟩; rw [HT.out])
    go_ret
    exact ⟨ret_bool HO.out.symm, rfl⟩
  · have HT := Lib.hid ht
    obtain ⟨v1, v2, cs, hh, h1, h2, _, _, _, _, _, hlen, hmem⟩ := h
    have hfin : openF cl f = !memB f cs := by
      have h := hmem f ht
      rw [← memB_iff] at h
      cases hc : cl f.toNat
      · rw [hc] at h
        cases hm : memB f cs
        · simp [openF, ht, hc]
        · rw [hm] at h; simp at h
      · simp [openF, ht, hc, h.1 hc]
    have HFIN := Lib.hid hfin
    have hv := cell_in hh 1 (v := v2) rfl
    obtain ⟨av, cv, rfl⟩ : ∃ a c, v2 = .slice a cs.length c := by
      rcases ints_form h2 with ⟨rfl, h⟩ | ⟨g, c, rfl, _⟩
      · exact ⟨_, _, by rw [h]⟩
      · exact ⟨_, _, rfl⟩
    have HV := Lib.hid h2
    have hcl : cs.length ≤ 5 := by omega
    clear ht hh h1 h2 hlen hmem hfin
    go_enter Try.func17, Try.ntmps17
    go_wp2_with (go_at_call 30; refine (family_any _ _).mono ?_; rintro e w' ⟨rfl, rfl⟩; rw [HT.out])
    go_loop [5] (fun i => ∃ k : Nat, k ≤ cs.length ∧ i = .int .i64 k ∧ Hid (memB f (cs.drop k) = memB f cs)) (fun i => cs.length - (intOf i).toNat)
    case atStart => exact ⟨0, Nat.zero_le _, rfl, by simp [Hid]⟩
    case round =>
      obtain ⟨k, hk, rfl, HC⟩ := hrel
      by_cases hlt : k < cs.length
      · have hform : ∃ g, av = some ⟨g, 0, none⟩ := by
          rcases ints_form HV.out with ⟨_, h⟩ | ⟨g, c, h, _⟩
          · omega
          · simp only [Value.slice.injEq] at h
            exact ⟨g, h.1⟩
        obtain ⟨g, rfl⟩ := hform
        have h0 := ints_at HV.out (k := k) (c := cs[k]) (by simp)
        have hd := drop_at cs k hlt
        have hcnt : Hid (memB f (cs.drop k) = (cs[k] == f || memB f (cs.drop (k + 1)))) := by rw [hd]; rfl
        clear hd
        cases hfe : (cs[k] == f)
        · rw [hfe] at hcnt
          go_wp2
          go_round
          case rel => exact ⟨k + 1, by omega, by go_num, by have h := HC.out; rw [hcnt.out, Bool.false_or] at h; exact h⟩
          case measure => simp [intOf]; omega
        · rw [hfe] at hcnt
          go_wp2
          go_ret
          refine ⟨ret_bool ?_, rfl⟩
          rw [HFIN.out, ← HC.out, hcnt.out]
          rfl
      · go_wp2
        go_ret
        refine ⟨ret_bool ?_, rfl⟩
        rw [HFIN.out, ← HC.out, List.drop_eq_nil_of_le (by omega)]
        rfl

/-- Close. -/
def RCloses (b : Nat) (S : List Nat) (es : List Ent) (cl : Nat → Bool) (w : World) (e : Ending) (w' : World) : Prop :=
  ∃ S', e = .returned (.tuple #[]) ∧ RBook w' b S' es cl ∧ Only S w w' ∧ ∀ k ∈ S', k ∈ S ∨ w.heap.size ≤ k

theorem infoInt : (Try.prog.info? 3).map (fun i => (i.zero, i.size, i.bytes)) = some (some (.int .i64 0), 1, 8) := by kernel_rfl

theorem shutF_same {cl : Nat → Bool} {f : Int} (h : openF cl f = false) : shutF cl f = cl := by
  funext j
  unfold shutF
  by_cases hjf : (j : Int) = f ∧ famOk f = true
  · rw [if_pos hjf]
    simp only [openF, hjf.2, Bool.true_and] at h
    have : f.toNat = j := by omega
    rw [this] at h
    simpa using h.symm
  · rw [if_neg hjf]

set_option maxHeartbeats 1000000 in
theorem rclose_any {w : World} {b : Nat} {S : List Nat} {es : List Ent} {cl : Nat → Bool} (h : RBook w b S es cl) (f : Int) :
    Calls Try.prog 25 #[.pointer (some ⟨b, 0, none⟩), .int .i64 f] w (RCloses b S es (shutF cl f) w) := by
  cases ho : openF cl f
  · have HO := Lib.hid ho
    have HB := Lib.hid h
    clear ho h
    go_enter Try.func25, Try.ntmps25
    go_wp2_with fail
    refine (ropen_any HB.out _).mono ?_
    rintro e w' ⟨rfl, rfl⟩
    rw [HO.out]
    go_wp2_with fail
    go_returns
    exact ⟨S, rfl, by rw [shutF_same HO.out]; exact HB.out, Only.refl _ _, fun k hk => .inl hk⟩
  · have HO := Lib.hid ho
    have hf : famOk f = true := by simp only [openF, Bool.and_eq_true] at ho; exact ho.1
    have hc0 : cl f.toNat = false := by simp only [openF, Bool.and_eq_true] at ho; simpa using ho.2
    have h15 : 1 ≤ f ∧ f ≤ 5 := by simpa [famOk] using hf
    obtain ⟨j, rfl⟩ := Int.eq_ofNat_of_zero_le (a := f) (by omega)
    have HB := Lib.hid h
    have HC0 := Lib.hid hc0
    obtain ⟨v1, v2, cs, hh, h1, h2, a1, a2, a3, hS, h64, hlen, hmem⟩ := h
    have hv := cell_in hh 1 (v := v2) rfl
    have hf0 : w.frozen? ⟨b, 1, none⟩ = false := by simp [World.frozen?, hh]
    have hb := lt_of_block hh
    have hcl : cs.length ≤ 5 := by omega
    have HH := Lib.hid hh
    have H1 := Lib.hid h1
    have H2 := Lib.hid h2
    have HA := Lib.hid (And.intro a1 (And.intro a2 (And.intro a3 (And.intro h64 (And.intro hlen (And.intro hmem hS))))))
    obtain ⟨i0, hi, hz0, hz1, hz2⟩ := info_parts infoInt
    have HI := Lib.hid hi
    have HZ := Lib.hid (And.intro hz0 (And.intro hz1 hz2))
    clear hi hz0 hz1 hz2 ho hf hc0 hh h1 h2 a1 a2 a3 hS h64 hlen hmem
    go_enter Try.func25, Try.ntmps25
    go_wp2_with fail
    refine (ropen_any HB.out _).mono ?_
    rintro e w' ⟨rfl, rfl⟩
    rw [HO.out]
    go_wp2_with (at_builtin; refine wpList_append_lies _ rfl _ _ 56 rfl 0 3 i0 _ 1 8 Try.underlying56 HI.out HZ.out.1 HZ.out.2.1 HZ.out.2.2 rfl (by decide) v2 cs.length (ints cs) rfl (H2.out.alloc _) ⟨w.heap.size, 0, none⟩ 1 1 [.int .i64 j] rfl rfl (World.news_of_block (cs := #[.int .i64 j]) (t := 3) (fr := (0, 0)) (heap_alloc_new w _)) (by simp [Value.oneCell']) (by omega) (by simp only [maxLen]; omega) (by omega) (by simp) (w.heap.size + 1) (by simp) ?_; intro gg cap w4 hown hgrow hat hlt; have hv4 : w4.cell? ⟨b, 1, none⟩ = some v2 := (hgrow.cell_far ⟨b, 1, none⟩ (by simp; omega) (Ne.symm HA.out.2.1)).trans (cell_new hv _); have hf4 : w4.frozen? ⟨b, 1, none⟩ = false := (hgrow.frozen_far ⟨b, 1, none⟩ (by simp; omega) (Ne.symm HA.out.2.1)).trans (frozen_new (a := ⟨b, 1, none⟩) hb hf0 _))
    go_returns
    obtain ⟨a1, a2, a3, h64, hlen, hmem, rfl⟩ := HA.out
    obtain ⟨S', k1, k2, k3⟩ := RBook.shut HH.out H1.out H2.out a1 a2 a3 h64 hlen hmem j (by omega) (by omega) (by simpa using HC0.out) _ hgrow gg cap hown hat
    exact ⟨S', rfl, k1, k2, k3⟩

set_option maxHeartbeats 400000 in
theorem rclose_nil (f : Int) (w : World) : Calls Try.prog 25 #[.pointer none, .int .i64 f] w fun e w' => e = .returned (.tuple #[]) ∧ w = w' := by
  go_enter Try.func25, Try.ntmps25
  go_wp2_with fail
  refine (ropen_nil _ _).mono ?_
  rintro e w' ⟨rfl, rfl⟩
  go_wp2_with fail
  go_returns
  exact ⟨rfl, rfl⟩

/- Enter -/
def REnters (b : Nat) (S : List Nat) (es : List Ent) (cl : Nat → Bool) (f : Int) (nm : ByteArray) (sz : Int) (w : World) (e : Ending) (w' : World) : Prop :=
  ∃ S' es' n, e = .returned (.tuple #[.int .i64 n, .int .i64 (why es cl f nm sz)]) ∧ RBook w' b S' es' cl ∧ Only S w w' ∧ (∀ k ∈ S', k ∈ S ∨ w.heap.size ≤ k) ∧
    ((why es cl f nm sz = 0 ∧ n = cnt f es + 1 ∧ es' = es ++ [⟨f, cnt f es + 1, nm, sz⟩]) ∨ (why es cl f nm sz ≠ 0 ∧ n = 0 ∧ es' = es))

set_option maxHeartbeats 400000 in
theorem renter_nil (f : Int) (nm : ByteArray) (sz : Int) (w : World) :
    Calls Try.prog 24 #[.pointer none, .int .i64 f, .string nm, .int .i64 sz] w fun e w' => e = .returned (.tuple #[.int .i64 0, .int .i64 4]) ∧ w = w' := by
  go_enter Try.func24, Try.ntmps24
  go_wp2
  go_ret2
  exact ⟨rfl, rfl⟩

theorem RBook.still {w w' : World} {b : Nat} {S : List Nat} {es : List Ent} {cl : Nat → Bool} {f : Int} {nm : ByteArray} {sz r : Int} (h : RBook w b S es cl) (hB : Below w.heap.size w w') (hw : why es cl f nm sz = r) (h0 : r ≠ 0) :
    REnters b S es cl f nm sz w (.returned (.tuple #[.int .i64 0, .int .i64 r])) w' :=
  ⟨S, es, 0, by rw [hw], h.below hB, Only.of_below _ hB, fun k hk => .inl hk, .inr ⟨by rw [hw]; exact h0, rfl, rfl⟩⟩

set_option maxHeartbeats 2000000 in
theorem renter_any {w : World} {b : Nat} {S : List Nat} {es : List Ent} {cl : Nat → Bool} (h : RBook w b S es cl) (f : Int) (nm : ByteArray) (sz : Int) (hs : nm.size ≤ maxLen) :
    Calls Try.prog 24 #[.pointer (some ⟨b, 0, none⟩), .int .i64 f, .string nm, .int .i64 sz] w (REnters b S es cl f nm sz w) := by
  have HB := Lib.hid h
  clear h
  cases hf : famOk f
  · have HW := Lib.hid (show why es cl f nm sz = 1 by simp [why, hf])
    have HT := Lib.hid hf
    clear hf
    go_enter Try.func24, Try.ntmps24
    go_wp2_with (go_at_call 30; refine (family_any _ _).mono ?_; rintro e w' ⟨rfl, rfl⟩; rw [HT.out])
    go_ret2
    exact HB.out.still (Below.refl _ _) HW.out (by decide)
  · have HT := Lib.hid hf
    cases hn : nameOk nm
    · have HW := Lib.hid (show why es cl f nm sz = 1 by simp [why, hf, hn])
      have HN := Lib.hid hn
      clear hf hn
      go_enter Try.func24, Try.ntmps24
      go_wp2_with (first | (go_at_call 30; refine (family_any _ _).mono ?_; rintro e w' ⟨rfl, rfl⟩; rw [HT.out]) | (go_at_call 33; refine (word_any _ _ hs).mono ?_; rintro e w' ⟨rfl, rfl⟩; rw [HN.out]))
      go_ret2
      exact HB.out.still (Below.refl _ _) HW.out (by decide)
    · have HN := Lib.hid hn
      by_cases h0 : 0 ≤ sz
      · cases ho : openF cl f
        · have hcl : cl f.toNat = true := by simpa [openF, hf] using ho
          have HW := Lib.hid (show why es cl f nm sz = 10 by simp [why, hf, hn, h0, hcl])
          have HO := Lib.hid ho
          clear hf hn ho hcl
          go_enter Try.func24, Try.ntmps24
          go_wp2_with (first | (go_at_call 30; refine (family_any _ _).mono ?_; rintro e w' ⟨rfl, rfl⟩; rw [HT.out]) | (go_at_call 33; refine (word_any _ _ hs).mono ?_; rintro e w' ⟨rfl, rfl⟩; rw [HN.out]) | (go_at_call 17; refine (ropen_any HB.out _).mono ?_; rintro e w' ⟨rfl, rfl⟩; rw [HO.out]))
          go_ret2
          exact HB.out.still (Below.refl _ _) HW.out (by decide)
        · have hcl : cl f.toNat = false := by simpa [openF, hf] using ho
          have HO := Lib.hid ho
          by_cases hfi : findN f nm es = 0
          · by_cases h64 : es.length = 64
            · have HW := Lib.hid (show why es cl f nm sz = 12 by simp [why, hf, hn, h0, hcl, hfi, h64])
              have HFI := Lib.hid hfi
              obtain ⟨v1, v2, cs, hh, h1, h2, _⟩ := HB.out
              obtain ⟨av, cv, rfl⟩ : ∃ a c, v1 = .slice a 64 c := by
                rcases rows_form h1 with ⟨_, h⟩ | ⟨g, c, rfl, _⟩
                · omega
                · exact ⟨_, _, by rw [h64]⟩
              have hv := cell_in hh 0 rfl
              have hb := lt_of_block hh
              clear hf hn ho hcl hfi h64 hh h1 h2
              go_enter Try.func24, Try.ntmps24
              go_wp2_with (first | (go_at_call 30; refine (family_any _ _).mono ?_; rintro e w' ⟨rfl, rfl⟩; rw [HT.out]) | (go_at_call 33; refine (word_any _ _ hs).mono ?_; rintro e w' ⟨rfl, rfl⟩; rw [HN.out]) | (go_at_call 17; refine (ropen_any HB.out _).mono ?_; rintro e w' ⟨rfl, rfl⟩; rw [HO.out]) | (go_at_call 26; refine (rfind_any (AllIs.of HB.out) _ _).mono ?_; rintro e w' ⟨rfl, hB⟩; rw [HFI.out]; rw [← hB.cell (p := ⟨b, 0, none⟩) hb] at hv))
              go_ret2
              exact HB.out.still (by assumption) HW.out (by decide)
            · have hsm := HB.out.small
              have hlt : es.length < 64 := by omega
              have HW := Lib.hid (show why es cl f nm sz = 0 by simp [why, hf, hn, h0, hcl, hfi, hlt])
              have HFI := Lib.hid hfi
              have hcn := cnt_le f es
              have hne : ((es.length : Int) == 64) = false := beq_eq_false_iff_ne.2 (by omega)
              clear hf hn ho hcl hfi h64
              go_enter Try.func24, Try.ntmps24
              go_wp2_with (first | (go_at_call 30; refine (family_any _ _).mono ?_; rintro e w' ⟨rfl, rfl⟩; rw [HT.out]) | (go_at_call 33; refine (word_any _ _ hs).mono ?_; rintro e w' ⟨rfl, rfl⟩; rw [HN.out]) | (go_at_call 17; refine (ropen_any HB.out _).mono ?_; rintro e w' ⟨rfl, rfl⟩; rw [HO.out]))
              refine (rfind_any (AllIs.of HB.out) _ _).mono ?_
              rintro e w1 ⟨rfl, hB1⟩
              rw [HFI.out]
              have HB1 := Lib.hid (HB.out.below hB1)
              obtain ⟨v1, v2, cs, hh, h1, h2, _⟩ := HB1.out
              obtain ⟨av, cv, rfl⟩ : ∃ a c, v1 = .slice a es.length c := by
                rcases rows_form h1 with ⟨rfl, h⟩ | ⟨g, c, rfl, _⟩
                · exact ⟨_, _, by rw [h]⟩
                · exact ⟨_, _, rfl⟩
              have hv := cell_in hh 0 rfl
              clear hh h1 h2
              go_wp2_with fail
              clear hv
              refine (rcount_any (AllIs.of HB1.out) _).mono ?_
              rintro e w3 ⟨rfl, hB3⟩
              have HB3 := Lib.hid (HB1.out.below hB3)
              have hB03 : Below w.heap.size w w3 := hB1.trans (hB3.mono hB1.size)
              obtain ⟨v1, v2, cs, hh, h1, h2, a1, a2, a3, hS, h64, hlen, hmem⟩ := HB3.out
              have hv := cell_in hh 0 (v := v1) rfl
              have hf0 : w3.frozen? ⟨b, 0, none⟩ = false := by simp [World.frozen?, hh]
              have hb := lt_of_block hh
              have HH := Lib.hid hh
              have H1 := Lib.hid h1
              have H2 := Lib.hid h2
              have HA := Lib.hid (And.intro a1 (And.intro a2 (And.intro a3 (And.intro h64 (And.intro hlen (And.intro hmem hS))))))
              obtain ⟨i0, hi, hz0, hz1, hz2⟩ := info_parts infoEnt
              have HI := Lib.hid hi
              have HZ := Lib.hid (And.intro hz0 (And.intro hz1 hz2))
              clear hi hz0 hz1 hz2 hh h1 h2 a1 a2 a3 hS h64 hlen hmem
              go_wp2_with (at_builtin; refine wpList_append_lies _ rfl _ _ 35 rfl 0 40 i0 _ 4 40 Try.underlying35 HI.out HZ.out.1 HZ.out.2.1 HZ.out.2.2 rfl (by decide) v1 es.length (flat es) rfl (H1.out.alloc _) ⟨w3.heap.size, 0, none⟩ 1 1 (flat [⟨f, cnt f es + 1, nm, sz⟩]) rfl rfl (World.news_of_block (cs := (flat [⟨f, cnt f es + 1, nm, sz⟩]).toArray) (t := 40) (fr := (0, 0)) (heap_alloc_new w3 _)) (flat_one _) (by omega) (by simp only [maxLen]; omega) (by omega) (by simp) (w3.heap.size + 1) (by simp) ?_; intro gg cap w4 hown hgrow hat hlt2; have hv4 : w4.cell? ⟨b, 0, none⟩ = some v1 := (hgrow.cell_far ⟨b, 0, none⟩ (by simp; omega) (Ne.symm HA.out.1)).trans (cell_new hv _); have hf4 : w4.frozen? ⟨b, 0, none⟩ = false := (hgrow.frozen_far ⟨b, 0, none⟩ (by simp; omega) (Ne.symm HA.out.1)).trans (frozen_new (a := ⟨b, 0, none⟩) hb hf0 _))
              go_ret2
              obtain ⟨a1, a2, a3, h64, hlen, hmem, rfl⟩ := HA.out
              obtain ⟨S', k1, k2, k3⟩ := RBook.grown HH.out H1.out H2.out a1 a2 a3 hlt hlen hmem ⟨f, cnt f es + 1, nm, sz⟩ _ hgrow gg cap hown hat
              exact ⟨S', _, _, ret_pair rfl HW.out.symm, k1, Only.same (Only.of_below _ hB03) k2, fun k hk => (k3 k hk).imp id (fun h => Nat.le_trans hB03.size h), .inl ⟨HW.out, rfl, rfl⟩⟩
          · have HW := Lib.hid (show why es cl f nm sz = 11 by simp [why, hf, hn, h0, hcl, hfi])
            have hne : (findN f nm es != 0) = true := by simpa using hfi
            clear hf hn ho hcl hfi
            go_enter Try.func24, Try.ntmps24
            go_wp2_with (first | (go_at_call 30; refine (family_any _ _).mono ?_; rintro e w' ⟨rfl, rfl⟩; rw [HT.out]) | (go_at_call 33; refine (word_any _ _ hs).mono ?_; rintro e w' ⟨rfl, rfl⟩; rw [HN.out]) | (go_at_call 17; refine (ropen_any HB.out _).mono ?_; rintro e w' ⟨rfl, rfl⟩; rw [HO.out]) | (go_at_call 26; refine (rfind_any (AllIs.of HB.out) _ _).mono ?_; rintro e w' ⟨rfl, hB⟩))
            go_ret2
            exact HB.out.still (by assumption) HW.out (by decide)
      · have HW := Lib.hid (show why es cl f nm sz = 1 by simp [why, hf, hn, h0])
        have hlt : sz < 0 := by omega
        clear hf hn h0
        go_enter Try.func24, Try.ntmps24
        go_wp2_with (first | (go_at_call 30; refine (family_any _ _).mono ?_; rintro e w' ⟨rfl, rfl⟩; rw [HT.out]) | (go_at_call 33; refine (word_any _ _ hs).mono ?_; rintro e w' ⟨rfl, rfl⟩; rw [HN.out]))
        go_ret2
        exact HB.out.still (Below.refl _ _) HW.out (by decide)

end Go.Proofs.Ytgdeeojamnbakaa
