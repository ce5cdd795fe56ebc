/- The walks of the code: an event written; Schema. -/
import Derived.Test.YtipcgmaobiobbaaGreatDoorPrVer
namespace Go.Proofs.YtipcgmaobiobbaaGreatDoor
open Go.RowKit

/-- what the loop over an event's versions holds -/
structure El (w : World) (g B : Nat) (m : Me) (t : List UInt8) (lg dp : Bool) (j : Nat) (W : World) : Prop where
  z : Wz W g B (t ++ (m.vs.take j).flatMap fun x => ptV x.v) (over t ((m.vs.take j).flatMap fun x => ptV x.v).length lg) (dp || (m.vs.take j).any fun x => deepV x.v)
  pr : Pr g B w W
theorem wz_at {W : World} {g B : Nat} {t X : List UInt8} {lg dp : Bool} (h : Wz W g B (t ++ X) (over t X.length lg) dp) : Wz W g B ((t ++ X) ++ []) (over (t ++ X) ([] : List UInt8).length (over t X.length lg)) dp := by
  rw [over_cat, List.append_nil, List.append_nil]
  exact h

set_option maxHeartbeats 8000000 in
set_option maxRecDepth 100000 in
theorem pevent_any {w : World} {g B : Nat} {t : List UInt8} {lg dp : Bool} (h : Wz w g B t lg dp) {m : Me} (hm : MeAt w B m) (hT : Ten w B) (hok : m.vs.all okW = true) :
    Calls Tryz.prog 15 #[.pointer (some ⟨g, 0, none⟩), .agg m.C] w (ZAt g B (t ++ ptE m.e) (over t (ptE m.e).length lg) (dp || deepE m.e) w) := by
  have hB := h.Bw
  have hg0 := h.len
  obtain ⟨w1, hw1⟩ : ∃ w1, w.alloc (.cells m.C 48) = w1 := ⟨_, rfl⟩
  have b1 : Below w.heap.size w w1 := by rw [← hw1]; exact (Below.refl _ w).alloc (Nat.le_refl _) _
  have k1 : CB w1 w.heap.size 48 m.C := by rw [← hw1]; exact CB.new w _ _
  have hne : w.heap.size ≠ g := by omega
  obtain ⟨n, hn⟩ : ∃ n, m.vs.length = n := ⟨_, rfl⟩
  have hvl : n ≤ 140737488355328 := by rw [← hn]; exact hm.len
  obtain ⟨HD, hHD⟩ : ∃ HD, blankL [wEvent, m.name, sOpen] = HD := ⟨_, rfl⟩
  have c0 : w1.cell? ⟨w.heap.size, 0, none⟩ = some (.string (str m.name)) := k1.at_ 0
  have CW : Hid (Calls Tryz.prog 27 #[.pointer (some ⟨g, 0, none⟩), .slice (some ⟨w1.heap.size, 0, none⟩) 3 3] (w1.alloc (.cells #[.string ⟨#[101, 118, 101, 110, 116]⟩, .string (str m.name), .string ⟨#[123, 10]⟩] 9)) fun e w3 => e = .returned (.tuple #[]) ∧
      w3.cell? ⟨w.heap.size, 1, none⟩ = some (.slice m.A n m.c) ∧ Hid (El w g B m (t ++ HD) (over t HD.length lg) dp 0 w3)) := by
    have hnm := hm.name
    refine Calls.mono (wz_words (h.below b1) [wEvent, m.name, sOpen] 3 rfl ?_ (by decide) _ rfl) ?_
    · intro x hx
      simp only [List.mem_cons, List.not_mem_nil, or_false] at hx
      rcases hx with rfl | rfl | rfl
      · decide
      · omega
      · decide
    · rintro e w3 ⟨rfl, h5, h6⟩
      have k5 := k1.pr h6 hne (by decide)
      refine ⟨rfl, by rw [← hn]; exact k5.at_ 1, ?_, (Pr.of b1 hB).trans h6⟩
      rw [hHD] at h5
      have e0 : (m.vs.take 0).flatMap (fun x => ptV x.v) = [] := rfl
      have e1 : (m.vs.take 0).any (fun x => deepV x.v) = false := rfl
      rw [e0, e1, Bool.or_false]
      exact wz_at h5
  have CL : Hid (∀ {W : World}, Pr g B w W → MeAt W B m) := fun hW => hm.below hW.bl
  have HOK := Lib.hid hok
  have HTN := Lib.hid hT
  have HN := Lib.hid hn
  have RD : Hid (∀ (j : Nat) (hj : j < m.vs.length) (wr : World), El w g B m (t ++ HD) (over t HD.length lg) dp j wr →
      Hid (Calls Tryz.prog 28 #[.pointer (some ⟨g, 0, none⟩), .agg (m.vs[j]).C] (wr.alloc (.cells (m.vs[j]).C 45)) fun e w2 => e = .returned (.tuple #[]) ∧ Hid (El w g B m (t ++ HD) (over t HD.length lg) dp (j + 1) w2))) := by
    intro j hj wr hV
    obtain ⟨x, hx⟩ : ∃ x, m.vs[j] = x := ⟨_, rfl⟩
    have hmem : x ∈ m.vs := hx ▸ List.getElem_mem hj
    have hokx : x.st.all okM = true := List.all_eq_true.1 HOK.out x hmem
    rw [hx]
    have ba : Below wr.heap.size wr (wr.alloc (.cells x.C 45)) := (Below.refl _ wr).alloc (Nat.le_refl _) _
    have hBr := hV.z.Bw
    have pw : Pr g B w (wr.alloc (.cells x.C 45)) := hV.pr.trans (Pr.of ba hBr)
    refine Calls.mono (pver_any (hV.z.below ba) ((CL.out pw).each x hmem) (HTN.out.below pw.bl) hokx) ?_
    rintro e w2 ⟨rfl, h2, h3⟩
    refine ⟨rfl, ?_, pw.trans h3⟩
    have et : (m.vs.take (j + 1)).flatMap (fun x => ptV x.v) = (m.vs.take j).flatMap (fun x => ptV x.v) ++ ptV x.v := by
      rw [List.take_succ_eq_append_getElem hj, List.flatMap_append, hx]
      simp
    have ed : (m.vs.take (j + 1)).any (fun x => deepV x.v) = ((m.vs.take j).any (fun x => deepV x.v) || deepV x.v) := by
      rw [List.take_succ_eq_append_getElem hj, List.any_append, hx]
      simp
    rw [over_cat, List.append_assoc] at h2
    rw [et, ed, ← Bool.or_assoc]
    exact h2
  have END : Hid (∀ wr, El w g B m (t ++ HD) (over t HD.length lg) dp n wr → Calls Tryz.prog 29 #[.pointer (some ⟨g, 0, none⟩), .string ⟨#[125, 10]⟩] wr fun e w' => e = .returned (.tuple #[]) ∧ Hid (ZAt g B (t ++ ptE m.e) (over t (ptE m.e).length lg) (dp || deepE m.e) w (.returned (.tuple #[])) w')) := by
    intro wr hV
    refine Calls.mono (wz_put hV.z [125, 10] (by decide)) ?_
    rintro e w' ⟨rfl, h2, h3⟩
    refine ⟨rfl, rfl, ?_, hV.pr.trans h3⟩
    have e1 : m.vs.take n = m.vs := by rw [← HN.out]; exact List.take_length
    rw [e1, over_cat, over_cat] at h2
    have e2 : ptE m.e = HD ++ (m.vs.flatMap fun x => ptV x.v) ++ [125, 10] := by
      rw [← hHD]
      unfold ptE Me.e
      rw [List.flatMap_map]
    have e3 : deepE m.e = m.vs.any fun x => deepV x.v := by
      unfold deepE Me.e
      rw [List.any_map]
      rfl
    rw [e2, e3]
    simp only [List.append_assoc] at h2 ⊢
    exact h2
  obtain ⟨name, vs, A, c, p⟩ := m
  unfold ZAt
  clear h hm hT hok b1 k1 hn hHD
  have eC : (⟨name, vs, A, c, p⟩ : Me).C = #[.string (str name), .slice A vs.length c, .int .i64 p] := rfl
  rw [eC] at hw1 ⊢
  clear eC
  have HN : Hid (vs.length = n) := HN
  rw [HN.out] at hw1 ⊢
  go_enter Tryz.func15, Tryz.ntmps15
  go_wp2_with (go_at_call 27; (with_reducible refine CW.out.mono ?_); rintro e w4 ⟨rfl, c1, HV⟩)
  go_loopw [14] (fun u wr => ∃ (j : Nat), u = .int .i64 j ∧ j ≤ n ∧ Hid (El w g B ⟨name, vs, A, c, p⟩ (t ++ HD) (over t HD.length lg) dp j wr)) (fun u _ => n - (intOf u).toNat)
  case atStart => exact ⟨0, rfl, Nat.zero_le _, HV⟩
  case round =>
    clear HV
    obtain ⟨j, rfl, hjl, HF⟩ := hrel
    by_cases hlt : j < n
    · have hiz : (j : Int) < (n : Int) := by omega
      have hi0 : (0 : Int) ≤ (j : Int) := by omega
      have hjv : j < vs.length := by rw [HN.out]; exact hlt
      have hgj : vs[j]? = some vs[j] := List.getElem?_eq_getElem hjv
      have CA := RD.out j hjv wr HF.out
      obtain ⟨y, hy⟩ : ∃ y, vs[j] = y := ⟨_, rfl⟩
      have ey : (⟨name, vs, A, c, p⟩ : Me).vs[j] = y := hy
      rw [ey] at CA
      rw [hy] at hgj
      obtain ⟨gb, go, hA, _, ⟨x0, x1, x2⟩, -⟩ := (CL.out HF.out.pr).cells hgj
      have hA : A = some ⟨gb, go, none⟩ := hA
      subst hA
      obtain ⟨yn, yst, Ay, cy, yp⟩ := y
      have eC : (⟨yn, yst, Ay, cy, yp⟩ : Mv).C = #[.int .u64 (yn : Nat), .slice Ay yst.length cy, .int .i64 yp] := rfl
      rw [eC] at CA
      clear hgj ey hy eC
      go_wp2_with (go_at_call 28; (with_reducible refine CA.out.mono ?_); rintro e w2 ⟨rfl, HN4⟩)
      go_roundw
      case rel => exact ⟨j + 1, by go_num, by omega, HN4⟩
      case measure => simp [intOf]; omega
    · obtain rfl : j = n := by omega
      have hiz : ¬ (j : Int) < (j : Int) := by omega
      have ce := END.out wr HF.out
      go_wp2_with (go_at_call 29; (with_reducible refine ce.mono ?_); rintro e w4 ⟨rfl, H4⟩)
      go_end0
      exact H4.out

set_option maxHeartbeats 1000000 in
set_option maxRecDepth 100000 in
theorem pstr_nil {w : World} {g : Nat} (c1 : w.cell? ⟨g, 1, none⟩ = some (.slice none 0 0)) :
    Calls Tryz.prog 30 #[.pointer (some ⟨g, 0, none⟩)] w fun e w' => e = .returned (.string (str [])) ∧ Below w.heap.size w w' := by
  have hSD : (Builtin.unsafeSliceData_ #[67] 111 #[.slice none 0 0]).run Tryz.prog w.drew = .ok (.pointer none) w.drew := Lib.run_unsafeSliceData_nil _ _ _ _ _
  have hUS : (Builtin.unsafeString_ #[111, 3] 9 #[.pointer none, .int .i64 0]).run Tryz.prog w.drew = .ok (.string (str [])) w.drew := Lib.run_unsafeString_none _ _ _ _ _
  have mixed : Tryz.prog.follows Departure.mixedOrders = true := by kernel_rfl
  have c1d : w.drew.cell? ⟨g, 1, none⟩ = some (.slice none 0 0) := c1
  go_enter Tryz.func30, Tryz.ntmps30
  go_wp2
  go_region_o
  all_goals (go_wp2; go_ret; exact ⟨rfl, Below.drew (Below.refl _ w)⟩)
set_option maxHeartbeats 1000000 in
set_option maxRecDepth 100000 in
theorem ptext_nil {w : World} {g B : Nat} (h : Wr w g B [] false false) (c1 : w.cell? ⟨g, 1, none⟩ = some (.slice none 0 0)) :
    Calls Tryz.prog 16 #[.pointer (some ⟨g, 0, none⟩)] w (TextAt B [] false false w) := by
  obtain ⟨⟨p, A, c, l, h1, hl, hlt⟩, hBw⟩ := h
  obtain ⟨_, _, c2, c3⟩ := h1.cells
  have cs := pstr_nil c1
  unfold TextAt
  clear h1
  go_enter Tryz.func16, Tryz.ntmps16
  go_wp2_with (go_at_call 30; refine cs.mono ?_; rintro e w2 ⟨rfl, hb2⟩)
  exact bodyPost_ret (v := .tuple #[.string (str []), .int .i64 0]) (results_2 rfl _ _ _ _ rfl rfl) rfl ⟨by simp, hb2.mono hBw⟩

theorem text_val (X : List UInt8) : Ending.returned (.tuple #[.string (str (if false = true ∨ over [] X.length false = true then [] else X)), .int .i64 (if false = true then 91 else if over [] X.length false = true then 2 else 0)]) =
    .returned (.tuple #[.string (str (if 1048576 < X.length then (([], 2) : List UInt8 × Nat) else (X, 0)).1), .int .i64 (((if 1048576 < X.length then (([], 2) : List UInt8 × Nat) else (X, 0)).2 : Nat) : Int)]) := by
  by_cases ho : 1048576 < X.length
  · simp [over, ho]
  · simp [over, ho]
/-- what Schema answers -/
def PSchAt (l : List Re) (w : World) (e : Ending) (w' : World) : Prop :=
  e = .returned (.tuple #[.string (str (schP l).1), .int .i64 ((schP l).2 : Nat)]) ∧ Below w.heap.size w w'
structure Tl (w0 w : World) (g B : Nat) (l : List Me) (j : Nat) (W : World) : Prop where
  z : Wz W g B ((l.take j).flatMap fun x => ptE x.e) (over [] ((l.take j).flatMap fun x => ptE x.e).length false) ((l.take j).any fun x => deepE x.e)
  pr : Pr g B w W
  bl : Below w0.heap.size w0 W
theorem ptE_ne (e : Re) : ptE e ≠ [] := by
  unfold ptE
  simp

set_option maxHeartbeats 8000000 in
set_option maxRecDepth 100000 in
theorem pschema_any {w : World} {c : Nat} {A : Option Addr} {l : List Me} (h : MtAt w w.heap.size A l) (hT : Ten w w.heap.size) :
    Calls Tryz.prog 6 #[.agg #[.slice A l.length c]] w (PSchAt (l.map Me.e) w) := by
  obtain ⟨n, hn⟩ : ∃ n, l.length = n := ⟨_, rfl⟩
  have hvl : n ≤ 140737488355328 := by rw [← hn]; exact h.len
  obtain ⟨w1, hw1⟩ : ∃ w1, w.alloc (.cells #[.slice A n c] 24) = w1 := ⟨_, rfl⟩
  have b1 : Below w.heap.size w w1 := by rw [← hw1]; exact (Below.refl _ w).alloc (Nat.le_refl _) _
  have k1 : CB w1 w.heap.size 24 #[.slice A n c] := by rw [← hw1]; exact CB.new w _ _
  have c0 : w1.cell? ⟨w.heap.size, 0, none⟩ = some (.slice A n c) := k1.at_ 0
  have s1 : w1.heap.size = w.heap.size + 1 := by rw [← hw1]; simp
  have h1 : MtAt w1 w.heap.size A l := h.below b1
  have CI : Hid (Calls Tryz.prog 13 #[.agg #[.slice A n c]] w1 fun e w2 => e = .returned (.bool (okT (l.map Me.e))) ∧ w2.cell? ⟨w.heap.size, 0, none⟩ = some (.slice A n c) ∧ Hid (Below w1.heap.size w1 w2 ∧ CB w2 w.heap.size 24 #[.slice A n c])) := by
    have := pistree_any (c := c) h1 b1.size
    rw [hn] at this
    refine Calls.mono this ?_
    rintro e w2 ⟨rfl, h2⟩
    exact ⟨rfl, (k1.below h2).at_ 0, h2, k1.below h2⟩
  unfold PSchAt
  by_cases hok : okT (l.map Me.e) = true
  · rw [hok] at CI
    have HTN := Lib.hid hT
    have HN := Lib.hid hn
    have hall : l.all okMe = true := by rw [← okT_of]; exact hok
    -- from a new writer on
    have NW : Hid (∀ (w2 : World), CB w2 w.heap.size 24 #[.slice A n c] → Below w1.heap.size w1 w2 → Calls Tryz.prog 14 #[] w2 fun e w3 => ∃ g, e = .returned (.pointer (some ⟨g, 0, none⟩)) ∧ w3.cell? ⟨w.heap.size, 0, none⟩ = some (.slice A n c) ∧
        Hid (Tl w w3 g w2.heap.size l 0 w3 ∧ Below w.heap.size w w3 ∧ w.heap.size ≤ w2.heap.size ∧ w2.heap.size ≤ w3.heap.size ∧ (n = 0 → Calls Tryz.prog 16 #[.pointer (some ⟨g, 0, none⟩)] w3 (PSchAt (l.map Me.e) w)))) := by
      intro w2 hc0 hb2
      refine Calls.mono (pnew_any w2) ?_
      rintro e w3 ⟨g, rfl, hg, hb3, h3, hc1⟩
      have hb23 : Below w.heap.size w w3 := b1.trans ((hb2.trans (hb3.mono hb2.size)).mono b1.size)
      refine ⟨g, rfl, ?_, ⟨h3.z, Pr.refl _ _ _, hb23⟩, hb23, Nat.le_trans b1.size hb2.size, hb3.size, fun h0 => ?_⟩
      · exact (hc0.below hb3).at_ 0
      · refine Calls.mono (ptext_nil h3 hc1) ?_
        rintro e w4 ⟨rfl, hb4⟩
        obtain rfl : l = [] := List.length_eq_zero_iff.1 (HN.out.trans h0)
        exact ⟨rfl, hb23.trans (hb4.mono (Nat.le_trans b1.size hb2.size))⟩
    have RD : Hid (∀ (w2 w3 : World) (g : Nat), Below w1.heap.size w1 w2 → Below w.heap.size w w3 → ∀ (j : Nat) (hj : j < l.length) (wr : World), Tl w w3 g w2.heap.size l j wr →
        Hid (Calls Tryz.prog 15 #[.pointer (some ⟨g, 0, none⟩), .agg (l[j]).C] (wr.alloc (.cells (l[j]).C 48)) fun e w4 => e = .returned (.tuple #[]) ∧ Hid (Tl w w3 g w2.heap.size l (j + 1) w4))) := by
      intro w2 w3 g hb2 hb3 j hj wr hV
      obtain ⟨x, hx⟩ : ∃ x, l[j] = x := ⟨_, rfl⟩
      have hmem : x ∈ l := hx ▸ List.getElem_mem hj
      have hokx : x.vs.all okW = true := by
        have := List.all_eq_true.1 hall x hmem
        unfold okMe at this
        rw [okE_of, Bool.and_eq_true] at this
        exact this.2
      rw [hx]
      have ba : Below wr.heap.size wr (wr.alloc (.cells x.C 48)) := (Below.refl _ wr).alloc (Nat.le_refl _) _
      have hBr := hV.z.Bw
      have hle : w.heap.size ≤ w2.heap.size := Nat.le_trans b1.size hb2.size
      have pw : Pr g w2.heap.size w3 (wr.alloc (.cells x.C 48)) := hV.pr.trans (Pr.of ba hBr)
      have bw : Below w.heap.size w (wr.alloc (.cells x.C 48)) := hV.bl.trans (ba.mono hV.bl.size)
      refine Calls.mono (pevent_any (hV.z.below ba) (((h.each x hmem).below bw).more hle) ((HTN.out.below bw).more hle) hokx) ?_
      rintro e w4 ⟨rfl, h2, h3⟩
      refine ⟨rfl, ⟨?_, pw.trans h3, bw.trans (h3.bl.mono hle)⟩⟩
      have et : (l.take (j + 1)).flatMap (fun x => ptE x.e) = (l.take j).flatMap (fun x => ptE x.e) ++ ptE x.e := by
        rw [List.take_succ_eq_append_getElem hj, List.flatMap_append, hx]
        simp
      have ed : (l.take (j + 1)).any (fun x => deepE x.e) = ((l.take j).any (fun x => deepE x.e) || deepE x.e) := by
        rw [List.take_succ_eq_append_getElem hj, List.any_append, hx]
        simp
      have h2 : Wz w4 g w2.heap.size (([] ++ (l.take j).flatMap fun x => ptE x.e) ++ ptE x.e) (over ([] ++ (l.take j).flatMap fun x => ptE x.e) (ptE x.e).length (over [] ((l.take j).flatMap fun x => ptE x.e).length false)) ((l.take j).any (fun x => deepE x.e) || deepE x.e) := h2
      rw [over_cat, List.nil_append] at h2
      rw [et, ed]
      exact h2
    have END : Hid (∀ (w2 w3 : World) (g : Nat), w.heap.size ≤ w2.heap.size → (n = 0 → Calls Tryz.prog 16 #[.pointer (some ⟨g, 0, none⟩)] w3 (PSchAt (l.map Me.e) w)) → ∀ wr, (n = 0 → wr = w3) → Tl w w3 g w2.heap.size l n wr → Calls Tryz.prog 16 #[.pointer (some ⟨g, 0, none⟩)] wr (PSchAt (l.map Me.e) w)) := by
      intro w2 w3 g hle h0 wr hwr hV
      by_cases hn0 : n = 0
      · rw [hwr hn0]
        exact h0 hn0
      · have e1 : l.take n = l := by rw [← HN.out]; exact List.take_length
        have hz := hV.z
        rw [e1] at hz
        obtain ⟨t', lg', h1, h2⟩ := hz
        have e2 : ptT (l.map Me.e) = l.flatMap fun x => ptE x.e := by unfold ptT; rw [List.flatMap_map]
        have e3 : (l.map Me.e).any deepE = l.any fun x => deepE x.e := by rw [List.any_map]; rfl
        have hne : (l.flatMap fun x => ptE x.e) ≠ [] := by
          intro hq
          cases l with
          | nil => exact hn0 HN.out.symm
          | cons x r =>
            rw [List.flatMap_cons, List.append_eq_nil_iff] at hq
            exact ptE_ne _ hq.1
        cases hd : l.any fun x => deepE x.e with
        | true =>
          rw [hd] at h1
          refine Calls.mono (ptext_any h1 (.inr (.inr rfl))) ?_
          rintro e w5 ⟨rfl, hb5⟩
          refine ⟨?_, hV.bl.trans (hb5.mono hle)⟩
          have hsp : schP (l.map Me.e) = ([], 91) := by
            unfold schP
            rw [if_neg (by rw [hok]; simp), if_pos (by rw [e3]; exact hd)]
          rw [hsp]
          simp
        | false =>
          rw [hd] at h1
          obtain ⟨rfl, rfl⟩ := h2 hd
          refine Calls.mono (ptext_any h1 (.inl hne)) ?_
          rintro e w5 ⟨rfl, hb5⟩
          refine ⟨?_, hV.bl.trans (hb5.mono hle)⟩
          have hsp : schP (l.map Me.e) = if 1048576 < (l.flatMap fun x => ptE x.e).length then ([], 2) else (l.flatMap fun x => ptE x.e, 0) := by
            unfold schP
            rw [if_neg (by rw [hok]; simp), if_neg (by rw [e3, hd]; simp), e2]
          rw [hsp]
          exact text_val _
    have CLM : Hid (∀ {W : World}, Below w.heap.size w W → MtAt W w.heap.size A l) := fun hW => h.below hW
    rw [hn]
    clear h hT h1 b1 k1 hok hall hn
    go_enter Tryz.func6, Tryz.ntmps6
    go_wp2_with (first
      | (go_at_call 13; (with_reducible refine CI.out.mono ?_); rintro e w2 ⟨rfl, d0, H2⟩; have cn := NW.out w2 H2.out.2 H2.out.1)
      | (go_at_call 14; (with_reducible refine cn.mono ?_); rintro e w3 ⟨g, rfl, d1, H3⟩))
    go_loopw [14] (fun u wr => ∃ (j : Nat), u = .int .i64 j ∧ j ≤ n ∧ Hid (Tl w w3 g w2.heap.size l j wr ∧ (j = 0 → wr = w3))) (fun u _ => n - (intOf u).toNat)
    case atStart => exact ⟨0, rfl, Nat.zero_le _, H3.out.1, fun _ => rfl⟩
    case round =>
      obtain ⟨j, rfl, hjl, HF⟩ := hrel
      by_cases hlt : j < n
      · have hiz : (j : Int) < (n : Int) := by omega
        have hi0 : (0 : Int) ≤ (j : Int) := by omega
        have hjv : j < l.length := by rw [HN.out]; exact hlt
        have hgj : l[j]? = some l[j] := List.getElem?_eq_getElem hjv
        have CA := RD.out w2 w3 g H2.out.1 H3.out.2.1 j hjv wr HF.out.1
        obtain ⟨y, hy⟩ : ∃ y, l[j] = y := ⟨_, rfl⟩
        rw [hy] at hgj CA
        obtain ⟨gb, go, hA, _, ⟨x0, x1, x2⟩, -⟩ := (CLM.out HF.out.1.bl).cells hgj
        have hA : A = some ⟨gb, go, none⟩ := hA
        subst hA
        obtain ⟨yn, yvs, Ay, cy, yp⟩ := y
        have eC : (⟨yn, yvs, Ay, cy, yp⟩ : Me).C = #[.string (str yn), .slice Ay yvs.length cy, .int .i64 yp] := rfl
        rw [eC] at CA
        clear hgj hy eC
        go_wp2_with (go_at_call 15; (with_reducible refine CA.out.mono ?_); rintro e w5 ⟨rfl, HN4⟩)
        go_roundw
        case rel => exact ⟨j + 1, by go_num, by omega, HN4.out, fun hq => absurd hq (Nat.succ_ne_zero _)⟩
        case measure => simp [intOf]; omega
      · obtain rfl : j = n := by omega
        have hiz : ¬ (j : Int) < (j : Int) := by omega
        have ce := END.out w2 w3 g H3.out.2.2.1 H3.out.2.2.2.2 wr HF.out.2 HF.out.1
        go_wp2_with (go_at_call 16; (with_reducible refine ce.mono ?_); rintro e w6 ⟨rfl, H6⟩)
        exact bodyPost_ret (v := .tuple #[.string _, .int .i64 _]) (results_2 rfl _ _ _ _ rfl rfl) rfl ⟨rfl, H6⟩
  · have hf : okT (l.map Me.e) = false := by simpa using hok
    rw [hf] at CI
    have hv : schP (l.map Me.e) = ([], 1) := by unfold schP; rw [if_pos hf]
    have HB1 := Lib.hid b1
    rw [hv, hn]
    clear h hT h1 k1 hok hf hv hn b1
    go_enter Tryz.func6, Tryz.ntmps6
    go_wp2_with (go_at_call 13; (with_reducible refine CI.out.mono ?_); rintro e w2 ⟨rfl, d0, H2⟩)
    exact bodyPost_ret (v := .tuple #[.string ⟨#[]⟩, .int .i64 1]) (results_2 rfl _ _ _ _ rfl rfl) rfl ⟨rfl, HB1.out.trans (H2.out.1.mono HB1.out.size)⟩
end Go.Proofs.YtipcgmaobiobbaaGreatDoor
