/- The walks of what changes a book, and of what it leans on. -/
import Derived.Test.YtgdeeojamnbakaaRollFind
import Derived.Test.YtgdeeojamnbakaaShelf
namespace Go.Proofs.Ytgdeeojamnbakaa
open Go.RowKit

set_option maxHeartbeats 400000 in
theorem at_none (b : Nat) (f m : Int) (w : World) (hb : b < w.heap.size) (hv : w.cell? ⟨b, 0, none⟩ = some (.slice none 0 0)) :
    Calls Try.prog 23 #[.pointer (some ⟨b, 0, none⟩), .int .i64 f, .int .i64 m] w (AtIs none w) := by
  go_enter Try.func23, Try.ntmps23
  go_wp2
  go_rounds 1
  refine bodyPost_ret (results_ent _ _ w.heap.size (.int .i64 0) (.int .i64 0) (.string ⟨#[]⟩) (.int .i64 0) rfl ?_ ?_ ?_ ?_) rfl ?_
  · exact cell_in (heap_alloc_new w _) 0 rfl
  · exact cell_in (heap_alloc_new w _) 1 rfl
  · exact cell_in (heap_alloc_new w _) 2 rfl
  · exact cell_in (heap_alloc_new w _) 3 rfl
  · exact ⟨rfl, (Below.refl _ _).alloc (Nat.le_refl _) _⟩

theorem at_any {w : World} {b : Nat} {S : List Nat} {es : List Ent} {cl : Nat → Bool} (h : Book w b S es cl) (f m : Int) :
    Calls Try.prog 23 #[.pointer (some ⟨b, 0, none⟩), .int .i64 f, .int .i64 m] w (AtIs (findAt f m es) w) := by
  obtain ⟨v, hh, hr, ha, rfl, h64⟩ := h
  have hv := cell_in hh 0 (v := v) rfl
  rcases rows_form hr with ⟨rfl, h0⟩ | ⟨g, cap, rfl, hg, hc, hm⟩
  · obtain rfl := List.eq_nil_of_length_eq_zero h0
    exact at_none b f m w (lt_of_block hh) hv
  · exact at_some b g _ cap es f m w rfl (by omega) hg (lt_of_block hh) hv hr

set_option maxHeartbeats 400000 in
theorem at_nil (f m : Int) (w : World) : Calls Try.prog 23 #[.pointer none, .int .i64 f, .int .i64 m] w (AtIs none w) := by
  go_enter Try.func23, Try.ntmps23
  go_wp2
  refine bodyPost_ret (results_ent _ _ w.heap.size (.int .i64 0) (.int .i64 0) (.string ⟨#[]⟩) (.int .i64 0) rfl ?_ ?_ ?_ ?_) rfl ?_
  · exact cell_in (heap_alloc_new w _) 0 rfl
  · exact cell_in (heap_alloc_new w _) 1 rfl
  · exact cell_in (heap_alloc_new w _) 2 rfl
  · exact cell_in (heap_alloc_new w _) 3 rfl
  · exact ⟨rfl, (Below.refl _ _).alloc (Nat.le_refl _) _⟩

set_option maxHeartbeats 400000 in
theorem isFamily_any (f : Int) (w : World) :
    Calls Try.prog 29 #[.int .i64 f] w fun e w' => e = .returned (.bool (famOk f)) ∧ w = w' := by
  go_enter Try.func29, Try.ntmps29
  go_wp2
  all_goals
    go_ret
    refine ⟨ret_bool ?_, rfl⟩
    simp only [famOk]
  · have h : 1 ≤ f := by assumption
    simp [h]
  · have h : ¬ 1 ≤ f := by omega
    simp [h]

set_option maxHeartbeats 400000 in
theorem isName_any (s : ByteArray) (w : World) (hs : s.size ≤ maxLen) :
    Calls Try.prog 34 #[.string s] w fun e w' => e = .returned (.bool (nameOk s)) ∧ w = w' := by
  unfold maxLen at hs
  by_cases h0 : s.size = 0
  · obtain rfl : s = ByteArray.empty := by apply ByteArray.ext; exact Array.eq_empty_of_size_eq_zero h0
    clear h0
    go_enter Try.func34, Try.ntmps34
    go_wp2
    go_ret
    exact ⟨rfl, rfl⟩
  · have hb0 : (((s.size : Nat) : Int) == 0) = false := beq_eq_false_iff_ne.2 (by omega)
    by_cases h16 : s.size ≤ 16
    · have hb16 : ((s.size : Nat) : Int) ≤ 16 := by omega
      have hpos : 1 ≤ s.size := by omega
      have hne : ¬ s = ByteArray.empty := by rintro rfl; exact h0 rfl
      clear h0
      have hfin : nameOk s = s.data.toList.all okc := by simp [nameOk, h16, hpos]
      have HFIN := Lib.hid hfin
      clear hfin
      go_enter Try.func34, Try.ntmps34
      go_wp2
      go_loop [15] (fun i => ∃ k : Nat, k ≤ s.size ∧ i = .int .i64 k ∧ Hid ((s.data.toList.drop k).all okc = s.data.toList.all okc)) (fun i => s.size - (intOf i).toNat)
      case atStart => exact ⟨0, Nat.zero_le _, rfl, by simp [Hid]⟩
      case round =>
        obtain ⟨k, hk, rfl, HC⟩ := hrel
        by_cases hlt : k < s.size
        · have hd : Hid ((s.data.toList.drop k).all okc = (okc s[k] && (s.data.toList.drop (k + 1)).all okc)) := by
            rw [drop_at _ k (by simpa using hlt)]; rfl
          go_wp2
          · have a1 : (s[k].toNat : Int) = 45 := by assumption
            go_round
            case rel => exact ⟨k + 1, by omega, by go_num, by have h := HC.out; rw [hd.out, okc_dash a1, Bool.true_and] at h; exact h⟩
            case measure => simp [intOf]; omega
          · have a1 : ¬ (s[k].toNat : Int) = 45 := by assumption
            have a2 : ((s[k].toNat : Int) != 45) = true ∧ ((s[k].toNat : Int) < 97 ∨ 122 < (s[k].toNat : Int)) := by assumption
            go_ret
            refine ⟨ret_bool ?_, rfl⟩
            rw [HFIN.out, ← HC.out, hd.out, okc_out a1 a2.2]
            rfl
          · have a1 : ¬ (s[k].toNat : Int) = 45 := by assumption
            have a2 : ((s[k].toNat : Int) != 45) = false ∨ 97 ≤ (s[k].toNat : Int) ∧ (s[k].toNat : Int) ≤ 122 := by assumption
            go_round
            case rel => exact ⟨k + 1, by omega, by go_num, by have h := HC.out; rw [hd.out, okc_in a1 a2, Bool.true_and] at h; exact h⟩
            case measure => simp [intOf]; omega
          · have a1 : ¬ (s[k].toNat : Int) = 45 := by assumption
            have a2 : (s[k].toNat : Int) < 97 := by assumption
            go_ret
            refine ⟨ret_bool ?_, rfl⟩
            rw [HFIN.out, ← HC.out, hd.out, okc_out a1 (.inl a2)]
            rfl
        · go_wp2
          go_ret
          refine ⟨ret_bool ?_, rfl⟩
          rw [HFIN.out, ← HC.out, List.drop_eq_nil_of_le (by simp; omega)]
          rfl
    · have hb16 : 16 < ((s.size : Nat) : Int) := by omega
      have hne : ¬ s = ByteArray.empty := by rintro rfl; exact h0 rfl
      clear h0
      have hfin : nameOk s = false := by simp [nameOk, h16]
      have HFIN := Lib.hid hfin
      clear hfin
      go_enter Try.func34, Try.ntmps34
      go_wp2
      go_ret
      exact ⟨ret_bool HFIN.out.symm, rfl⟩

/-- Open: a family, and not closed. -/
def openF (cl : Nat → Bool) (f : Int) : Bool := famOk f && !cl f.toNat

set_option maxHeartbeats 400000 in
theorem open_any {w : World} {b : Nat} {S : List Nat} {es : List Ent} {cl : Nat → Bool} (h : Book w b S es cl) (f : Int) :
    Calls Try.prog 16 #[.pointer (some ⟨b, 0, none⟩), .int .i64 f] w fun e w' => e = .returned (.bool (openF cl f)) ∧ w = w' := by
  by_cases hf : 1 ≤ f ∧ f ≤ 5
  · obtain ⟨hf1, hf2⟩ := hf
    obtain ⟨j, rfl⟩ := Int.eq_ofNat_of_zero_le (a := f) (by omega)
    have hc := h.flag j (by omega)
    have ht : famOk ((j : Nat) : Int) = true := by simp [famOk]; omega
    have HT := Lib.hid ht
    clear ht h
    go_enter Try.func16, Try.ntmps16
    go_wp2_with (go_at_call 29; refine (isFamily_any _ _).mono ?_; rintro e w' ⟨rfl, rfl⟩; rw [HT.out])
    go_ret
    exact ⟨ret_bool (by simp [openF, HT.out]), rfl⟩
  · have ht : famOk f = false := by simp [famOk]; omega
    have HT := Lib.hid ht
    clear ht h hf
    go_enter Try.func16, Try.ntmps16
    go_wp2_with (go_at_call 29; refine (isFamily_any _ _).mono ?_; rintro e w' ⟨rfl, rfl⟩; rw [HT.out])
    go_ret
    exact ⟨ret_bool (by simp [openF, HT.out]), rfl⟩

set_option maxHeartbeats 400000 in
theorem open_nil (f : Int) (w : World) : Calls Try.prog 16 #[.pointer none, .int .i64 f] w fun e w' => e = .returned (.bool false) ∧ w = w' := by
  go_enter Try.func16, Try.ntmps16
  go_wp2
  go_ret
  exact ⟨rfl, rfl⟩

/-- Close. -/
def shutF (cl : Nat → Bool) (f : Int) : Nat → Bool := fun j => if (j : Int) = f ∧ famOk f = true then true else cl j

def Closes (b : Nat) (S : List Nat) (es : List Ent) (cl : Nat → Bool) (w : World) (e : Ending) (w' : World) : Prop :=
  e = .returned (.tuple #[]) ∧ Book w' b S es cl ∧ Only [b] w w'

set_option maxHeartbeats 400000 in
theorem close_any {w : World} {b : Nat} {S : List Nat} {es : List Ent} {cl : Nat → Bool} (h : Book w b S es cl) (f : Int) :
    Calls Try.prog 20 #[.pointer (some ⟨b, 0, none⟩), .int .i64 f] w (Closes b S es (shutF cl f) w) := by
  by_cases hf : 1 ≤ f ∧ f ≤ 5
  · obtain ⟨hf1, hf2⟩ := hf
    obtain ⟨j, rfl⟩ := Int.eq_ofNat_of_zero_le (a := f) (by omega)
    have hc := h.flag j (by omega)
    have hu := h.unfrozen (1 + j)
    have ht : famOk ((j : Nat) : Int) = true := by simp [famOk]; omega
    have HT := Lib.hid ht
    have HB := Lib.hid h
    clear ht h
    go_enter Try.func20, Try.ntmps20
    go_wp2_with (go_at_call 29; refine (isFamily_any _ _).mono ?_; rintro e w' ⟨rfl, rfl⟩; rw [HT.out])
    go_returns
    refine ⟨rfl, ?_, Only.setCell _ _ _ _⟩
    have hk := HB.out.flagged j (by omega) true
    have he : (fun i => if i = j then true else cl i) = shutF cl ((j : Nat) : Int) := by
      funext i
      simp only [shutF, HT.out, and_true]
      by_cases hij : i = j
      · simp [hij]
      · rw [if_neg hij, if_neg (by omega)]
    rw [he] at hk
    exact hk
  · have ht : famOk f = false := by simp [famOk]; omega
    have HT := Lib.hid ht
    have HB := Lib.hid h
    clear ht h hf
    go_enter Try.func20, Try.ntmps20
    go_wp2_with (go_at_call 29; refine (isFamily_any _ _).mono ?_; rintro e w' ⟨rfl, rfl⟩; rw [HT.out])
    go_returns
    have he : cl = shutF cl f := by funext i; simp [shutF, HT.out]
    rw [← he]
    exact ⟨rfl, HB.out, Only.refl _ _⟩

set_option maxHeartbeats 400000 in
theorem close_nil (f : Int) (w : World) : Calls Try.prog 20 #[.pointer none, .int .i64 f] w fun e w' => e = .returned (.tuple #[]) ∧ w = w' := by
  go_enter Try.func20, Try.ntmps20
  go_wp2
  go_returns
  exact ⟨rfl, rfl⟩

/-- New. -/
def Makes (w : World) (e : Ending) (w' : World) : Prop :=
  e = .returned (.pointer (some ⟨w.heap.size, 0, none⟩)) ∧ Book w' w.heap.size [w.heap.size] [] (fun _ => false) ∧ Below w.heap.size w w'

set_option maxHeartbeats 400000 in
theorem new_any (w : World) : Calls Try.prog 9 #[] w (Makes w) := by
  go_enter Try.func9, Try.ntmps9
  go_wp2
  go_ret
  refine ⟨rfl, ⟨.slice none 0 0, heap_alloc_new w _, World.ownsRow_nil _ _ _ _, by simp [Value.ownBlock], rfl, by simp⟩, (Below.refl _ _).alloc (Nat.le_refl _) _⟩

/-- slices.Clone of a row of entries. -/
def Clones (t : TypeId) (n : Nat) (xs : List Value) (w : World) (e : Ending) (w' : World) : Prop :=
  ∃ v, e = .returned v ∧ w'.ownsRow w.heap.size t 4 v n xs ∧ Below w.heap.size w w'

theorem infoEnt : (Try.prog.info? 40).map (fun i => (i.zero, i.size, i.bytes)) = some (some (.agg #[.int .i64 0, .int .i64 0, .string ⟨#[]⟩, .int .i64 0]), 4, 40) := by kernel_rfl

set_option maxHeartbeats 400000 in
theorem clone_some (g n cap : Nat) (xs : List Value) (w : World) (hn : n ≤ 64) (hone : ∀ u ∈ xs, u.oneCell' = true)
    (hown : w.ownsRow 0 40 4 (.slice (some ⟨g, 0, none⟩) n cap) n xs) :
    Calls Try.prog 28 #[.slice (some ⟨g, 0, none⟩) n cap] w (Clones 40 n xs w) := by
  have hnews : ∀ j u, xs[j]? = some u → (w.alloc (.cells #[] 40)).cell? ((⟨g, 0, none⟩ : Addr).add j) = some u := fun j u hj => cell_new (hown.cells (g := g) rfl j u hj) _
  have HN := Lib.hid hnews
  have HO := Lib.hid (show xs.length = n * 4 from hown.1)
  have H1 := Lib.hid hone
  clear hown hnews hone
  have HM := Lib.hid (World.ownsRow_made w (base := w.heap.size) (e := 40) (size := 4) #[] 0 (Nat.le_refl _) (by simp [maxLen]) rfl)
  obtain ⟨i0, hi, hz0, hz1, hz2⟩ := info_parts infoEnt
  have q := fun (W : World) (a : Option Addr) (n c n' c' : Nat) => Lib.run_eql_slice_nil (P := Try.prog) W _ _ a n c n' c' Try.underlying35
  have HI := Lib.hid hi
  have HZ := Lib.hid (And.intro hz0 (And.intro hz1 hz2))
  clear hi hz0 hz1 hz2
  go_enter Try.func28, Try.ntmps28
  go_wp2_with (at_builtin; refine wpList_append_own _ rfl _ _ 35 rfl w.heap.size 40 i0 _ 4 40 Try.underlying35 HI.out HZ.out.1 HZ.out.2.1 HZ.out.2.2 rfl (by decide) (.slice (some ⟨w.heap.size, 0, none⟩) 0 0) 0 [] rfl HM.out ⟨g, 0, none⟩ n cap xs rfl HO.out HN.out H1.out (by simp only [maxLen]; omega) (by omega) (by simp) ?_; intro v' w1 hown1 hgrow1 _)
  go_ret
  refine ⟨v', rfl, by simpa using hown1, ?_⟩
  exact ((Below.refl _ w).alloc (Nat.le_refl _) _).grown hgrow1 (by simp) (fun k hk => by have hk2 : some w.heap.size = some k := hk; simp at hk2; omega)

set_option maxHeartbeats 400000 in
theorem clone_none (w : World) :
    Calls Try.prog 28 #[.slice none 0 0] w (Clones 40 0 [] w) := by
  have q := fun (W : World) (a : Option Addr) (n c n' c' : Nat) => Lib.run_eql_slice_nil (P := Try.prog) W _ _ a n c n' c' Try.underlying35
  go_enter Try.func28, Try.ntmps28
  go_wp2_with fail
  go_ret
  exact ⟨_, rfl, World.ownsRow_nil _ _ _ _, Below.refl _ _⟩

set_option maxHeartbeats 400000 in
theorem all_any {w : World} {b : Nat} {S : List Nat} {es : List Ent} {cl : Nat → Bool} (h : Book w b S es cl) :
    Calls Try.prog 14 #[.pointer (some ⟨b, 0, none⟩)] w (Clones 40 es.length (flat es) w) := by
  obtain ⟨v, hh, hr, ha, rfl, h64⟩ := h
  have hv := cell_in hh 0 (v := v) rfl
  rcases rows_form hr with ⟨rfl, h0⟩ | ⟨g, cap, rfl, hg, hc, hm⟩
  · obtain rfl := List.eq_nil_of_length_eq_zero h0
    clear hr hh ha h0
    go_enter Try.func14, Try.ntmps14
    go_wp2_with (go_at_call 28; refine (clone_none _).mono ?_; rintro e w' ⟨v, rfl, hown, hB⟩)
    go_ret
    exact ⟨v, rfl, hown, hB⟩
  · have HR := Lib.hid hr
    clear hr hh ha
    go_enter Try.func14, Try.ntmps14
    go_wp2_with (go_at_call 28; refine (clone_some g _ cap (flat es) _ h64 (flat_one es) HR.out).mono ?_; rintro e w' ⟨v, rfl, hown, hB⟩)
    go_ret
    exact ⟨v, rfl, hown, hB⟩

set_option maxHeartbeats 400000 in
theorem all_nil (w : World) : Calls Try.prog 14 #[.pointer none] w fun e w' => e = .returned (.slice none 0 0) ∧ w = w' := by
  go_enter Try.func14, Try.ntmps14
  go_wp2
  go_ret
  exact ⟨rfl, rfl⟩

end Go.Proofs.Ytgdeeojamnbakaa
