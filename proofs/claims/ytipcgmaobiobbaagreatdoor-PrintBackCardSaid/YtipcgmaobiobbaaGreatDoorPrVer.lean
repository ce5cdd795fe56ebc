/- The walk of the code: a version written. -/
import Derived.Test.YtipcgmaobiobbaaGreatDoorPrSplit
namespace Go.Proofs.YtipcgmaobiobbaaGreatDoor
open Go.RowKit

/-- the writer, but for what stands in it where something was too deep -/
def Wz (w : World) (g B : Nat) (t : List UInt8) (lg dp : Bool) : Prop := ∃ t' lg', Wr w g B t' lg' dp ∧ (dp = false → t' = t ∧ lg' = lg)
def ZAt (g B : Nat) (t : List UInt8) (lg dp : Bool) (w : World) (e : Ending) (w' : World) : Prop := e = .returned (.tuple #[]) ∧ Wz w' g B t lg dp ∧ Pr g B w w'
theorem over_cat (t X S : List UInt8) (lg : Bool) : over (t ++ X) S.length (over t X.length lg) = over t (X ++ S).length lg := by rw [over_two t X.length S.length lg X rfl, List.length_append]
section
variable {w w' : World} {g B : Nat} {t : List UInt8} {lg dp : Bool}
theorem Wr.z (h : Wr w g B t lg dp) : Wz w g B t lg dp := ⟨t, lg, h, fun _ => ⟨rfl, rfl⟩⟩
theorem Wz.below (h : Wz w g B t lg dp) (hb : Below w.heap.size w w') : Wz w' g B t lg dp := by
  obtain ⟨t', lg', h1, h2⟩ := h
  exact ⟨t', lg', h1.below hb, h2⟩
theorem Wz.Bw (h : Wz w g B t lg dp) : B ≤ w.heap.size := by
  obtain ⟨_, _, h1, _⟩ := h
  exact h1.Bw
theorem Wz.len (h : Wz w g B t lg dp) : g < w.heap.size := by
  obtain ⟨_, _, h1, _⟩ := h
  exact h1.len
theorem Wz.fn (h : Wz w g B t lg dp) (o : Nat) : w.cell? ⟨g, 4 + o, none⟩ = (ndFns g ++ stFns g)[o]? := by
  obtain ⟨_, _, h1, _⟩ := h
  exact h1.fn o
theorem wz_put (h : Wz w g B t lg dp) (s : List UInt8) (hs : s.length ≤ 100) : Calls Tryz.prog 29 #[.pointer (some ⟨g, 0, none⟩), .string (str s)] w (ZAt g B (t ++ s) (over t s.length lg) dp w) := by
  obtain ⟨t', lg', h1, h2⟩ := h
  refine (pput_any h1 (str s) (by rw [str_size]; omega)).mono ?_
  rintro e w' ⟨rfl, h3, h4⟩
  rw [ls_str, str_size] at h3
  exact ⟨rfl, ⟨_, _, h3, fun hd => by obtain ⟨rfl, rfl⟩ := h2 hd; exact ⟨rfl, rfl⟩⟩, h4⟩
theorem wz_words (h : Wz w g B t lg dp) (l : List (List UInt8)) (n : Nat) (hn : l.length = n) (hs : ∀ x ∈ l, x.length ≤ 4611686018427387904) (hl : n ≤ 100) (cs : Array Value) (hcs : (l.map fun x => Value.string (str x)).toArray = cs) :
    Calls Tryz.prog 27 #[.pointer (some ⟨g, 0, none⟩), .slice (some ⟨w.heap.size, 0, none⟩) n n] (w.alloc (.cells cs 9)) (ZAt g B (t ++ blankL l) (over t (blankL l).length lg) dp w) := by
  obtain ⟨t', lg', h1, h2⟩ := h
  refine (pwords_new h1 l n hn hs hl cs hcs).mono ?_
  rintro e w' ⟨rfl, h3, h4⟩
  exact ⟨rfl, ⟨_, _, h3, fun hd => by obtain ⟨rfl, rfl⟩ := h2 hd; exact ⟨rfl, rfl⟩⟩, h4⟩
theorem StAt.z {s : Rs} {t' : List UInt8} {lg' : Bool} {e : Ending} (h : StAt g B t' s lg' dp w e w') (h2 : dp = false → t' = t ∧ lg' = lg) : ZAt g B (t ++ ptS s) (over t (ptS s).length lg) (dp || deepS s) w e w' := by
  obtain ⟨h1, h3, h4⟩ := h
  refine ⟨h1, ?_, h4⟩
  by_cases hd : deepS s = true
  · rw [if_pos hd] at h3
    obtain ⟨t1, lg1, h3⟩ := h3
    rw [hd, Bool.or_true]
    exact ⟨t1, lg1, h3, nofun⟩
  · rw [if_neg hd] at h3
    rw [Bool.not_eq_true] at hd
    rw [hd, Bool.or_false]
    exact ⟨_, _, h3, fun hd => by obtain ⟨rfl, rfl⟩ := h2 hd; exact ⟨rfl, rfl⟩⟩
end
/-- the function that writes a step -/
theorem step_fn {m : Ms} (hok : okS m.s = true) (g B : Nat) : ∃ (o : Nat) (fn : FuncId), m.s.kind = (o : Nat) ∧ o < 7 ∧ (stFns g)[o]? = some (.func (.func fn) #[.pointer (some ⟨g, 0, none⟩)] #[]) ∧ (∀ args w, (callFunc fn args).run Tryz.prog w = .ok (.enter fn args) w) ∧
    ∀ {W : World} {t : List UInt8} {lg dp : Bool}, Wz W g B t lg dp → Ten W B → MsAt W B m → Calls Tryz.prog fn #[.pointer (some ⟨g, 0, none⟩), .agg m.C] W (ZAt g B (t ++ ptS m.s) (over t (ptS m.s).length lg) (dp || deepS m.s) W) := by
  have hv0 : m.s.kind ≠ 1 → m.s.v = [] := fun h1 => by
    unfold okS at hok
    rw [Bool.and_eq_true] at hok
    have := hok.1
    rw [decide_eq_false h1, Bool.false_and, Bool.or_false, decide_eq_true_eq] at this
    exact this
  have hv1 : m.s.v = [] ∨ (exprP m.s.v).isSome = true := by
    unfold okS at hok
    simp only [Bool.and_eq_true, Bool.or_eq_true, decide_eq_true_eq] at hok
    exact hok.1.imp id (·.2)
  by_cases h1 : m.s.kind = 1
  · refine ⟨1, 46, h1, by decide, rfl, enters_of Tryz.func46 (by kernel_rfl) rfl, ?_⟩
    rintro W t lg dp ⟨t', lg', h, h2⟩ hT hm
    refine (padd_any h hm hT h1 hv1).mono ?_
    intro e w' hz
    exact hz.z h2
  · have hv := hv0 h1
    have hk : m.s.kind = 2 ∨ m.s.kind = 3 ∨ m.s.kind = 4 ∨ m.s.kind = 5 ∨ m.s.kind = 6 := by
      unfold okS at hok
      rw [Bool.and_eq_true] at hok
      have := hok.2
      by_cases h2 : m.s.kind = 2
      · exact .inl h2
      by_cases h3 : m.s.kind = 3
      · exact .inr (.inl h3)
      by_cases h4 : m.s.kind = 4
      · exact .inr (.inr (.inl h4))
      by_cases h5 : m.s.kind = 5
      · exact .inr (.inr (.inr (.inl h5)))
      by_cases h6 : m.s.kind = 6
      · exact .inr (.inr (.inr (.inr h6)))
      rw [if_neg (by omega), if_neg h2, if_neg (by omega), if_neg h6] at this
      cases this
    rcases hk with hk | hk | hk | hk | hk
    · refine ⟨2, 47, hk, by decide, rfl, enters_of Tryz.func47 (by kernel_rfl) rfl, ?_⟩
      rintro W t lg dp ⟨t', lg', h, h2⟩ hT hm
      refine (pren_any h m hm.lt).mono ?_
      intro e w' hz
      exact (StAt.of hz (by unfold ptS; rw [if_neg (by omega), if_pos hk]) hv).z h2
    · refine ⟨3, 48, hk, by decide, rfl, enters_of Tryz.func48 (by kernel_rfl) rfl, ?_⟩
      rintro W t lg dp ⟨t', lg', h, h2⟩ hT hm
      refine (psplit_any h m hm.lt).mono ?_
      intro e w' hz
      exact (StAt.of hz (by unfold ptS; rw [if_neg (by omega), if_neg (by omega), if_pos hk]) hv).z h2
    · refine ⟨4, 49, hk, by decide, rfl, enters_of Tryz.func49 (by kernel_rfl) rfl, ?_⟩
      rintro W t lg dp ⟨t', lg', h, h2⟩ hT hm
      refine (pjoins_any h m hm.lt).mono ?_
      intro e w' hz
      exact (StAt.of hz (by unfold ptS; rw [if_neg (by omega), if_neg (by omega), if_neg (by omega), if_pos hk]) hv).z h2
    · refine ⟨5, 50, hk, by decide, rfl, enters_of Tryz.func50 (by kernel_rfl) rfl, ?_⟩
      rintro W t lg dp ⟨t', lg', h, h2⟩ hT hm
      refine (pret_any h m hm.lt).mono ?_
      intro e w' hz
      exact (StAt.of hz (by unfold ptS; rw [if_neg (by omega), if_neg (by omega), if_neg (by omega), if_neg (by omega), if_pos hk]) hv).z h2
    · refine ⟨6, 51, hk, by decide, rfl, enters_of Tryz.func51 (by kernel_rfl) rfl, ?_⟩
      rintro W t lg dp ⟨t', lg', h, h2⟩ hT hm
      refine (pdrop_any h m hm.lt).mono ?_
      intro e w' hz
      exact (StAt.of hz (by unfold ptS; rw [if_neg (by omega), if_neg (by omega), if_neg (by omega), if_neg (by omega), if_neg (by omega)]) hv).z h2

/-- what the loop over a version's steps holds -/
structure Vl (w : World) (g B : Nat) (m : Mv) (t : List UInt8) (lg dp : Bool) (j : Nat) (W : World) : Prop where
  z : Wz W g B (t ++ (m.st.take j).flatMap fun x => plS x.s) (over t ((m.st.take j).flatMap fun x => plS x.s).length lg) (dp || (m.st.take j).any fun x => deepS x.s)
  pr : Pr g B w W
theorem dec_len {u : Nat} (h : u < 18446744073709551616) : (Lib.decDigits u).length ≤ 20 := by
  rw [Lib.decDigits_length]
  by_cases h1 : 1 ≤ u
  · have := Lib.numDigits_eq u h1 h
    split at this <;> omega
  · have : u = 0 := by omega
    rw [this, ← Lib.decDigits_length, Lib.decDigits_one (by decide)]
    decide

set_option maxHeartbeats 8000000 in
set_option maxRecDepth 100000 in
theorem pver_any {w : World} {g B : Nat} {t : List UInt8} {lg dp : Bool} (h : Wz w g B t lg dp) {m : Mv} (hm : MvAt w B m) (hT : Ten w B) (hok : m.st.all okM = true) :
    Calls Tryz.prog 28 #[.pointer (some ⟨g, 0, none⟩), .agg m.C] w (ZAt g B (t ++ ptV m.v) (over t (ptV m.v).length lg) (dp || deepV m.v) w) := by
  have hB := h.Bw
  have hg0 := h.len
  obtain ⟨w1, hw1⟩ : ∃ w1, w.alloc (.cells m.C 45) = w1 := ⟨_, rfl⟩
  have b1 : Below w.heap.size w w1 := by rw [← hw1]; exact (Below.refl _ w).alloc (Nat.le_refl _) _
  have k1 : CB w1 w.heap.size 45 m.C := by rw [← hw1]; exact CB.new w _ _
  have hne : w.heap.size ≠ g := by omega
  obtain ⟨n, hn⟩ : ∃ n, m.st.length = n := ⟨_, rfl⟩
  have hvl : n ≤ 140737488355328 := by rw [← hn]; exact hm.len
  have hnum := hm.num
  obtain ⟨HD, hHD⟩ : ∃ HD, [32, 32] ++ blankL [wVersion, Lib.decDigits m.num, sOpen] = HD := ⟨_, rfl⟩
  -- the first text put
  have CP1 : Hid (Calls Tryz.prog 29 #[.pointer (some ⟨g, 0, none⟩), .string ⟨#[32, 32]⟩] w1 fun e w' => e = .returned (.tuple #[]) ∧ w'.cell? ⟨w.heap.size, 0, none⟩ = some (.int .u64 (m.num : Nat)) ∧
      Hid (Calls Tryz.prog 52 #[.int .u64 (m.num : Nat), .int .i64 10] w' fun e w2 => e = .returned (.string (str (Lib.decDigits m.num))) ∧
        Hid (Calls Tryz.prog 27 #[.pointer (some ⟨g, 0, none⟩), .slice (some ⟨w2.heap.size, 0, none⟩) 3 3] (w2.alloc (.cells #[.string ⟨#[118, 101, 114, 115, 105, 111, 110]⟩, .string (str (Lib.decDigits m.num)), .string ⟨#[123, 10]⟩] 9)) fun e w3 => e = .returned (.tuple #[]) ∧
          w3.cell? ⟨w.heap.size, 1, none⟩ = some (.slice m.A n m.c) ∧ Hid (Vl w g B m (t ++ HD) (over t HD.length lg) dp 0 w3)))) := by
    refine Calls.mono (wz_put (h.below b1) [32, 32] (by decide)) ?_
    rintro e w' ⟨rfl, h2, h3⟩
    have k2 := k1.pr h3 hne (by decide)
    refine ⟨rfl, k2.at_ 0, ?_⟩
    have p2 : Pr g B w w' := (Pr.of b1 hB).trans h3
    refine Calls.mono (pfmt_any (hT.below p2.bl) hnum) ?_
    rintro e w2 ⟨rfl, hb2⟩
    refine ⟨rfl, ?_⟩
    have h4 := h2.below hb2
    have p4 := Pr.of hb2 h2.Bw (g := g)
    have k4 := k2.pr p4 hne (by decide)
    have hd20 := dec_len hnum
    refine Calls.mono (wz_words h4 [wVersion, Lib.decDigits m.num, sOpen] 3 rfl ?_ (by decide) _ rfl) ?_
    · intro x hx
      simp only [List.mem_cons, List.not_mem_nil, or_false] at hx
      rcases hx with rfl | rfl | rfl
      · decide
      · omega
      · decide
    · rintro e w3 ⟨rfl, h5, h6⟩
      have k5 := k4.pr h6 hne (by decide)
      refine ⟨rfl, by rw [← hn]; exact k5.at_ 1, ?_, (p2.trans p4).trans h6⟩
      rw [over_cat, hHD, List.append_assoc, hHD] at h5
      have e0 : (m.st.take 0).flatMap (fun x => plS x.s) = [] := rfl
      have e1 : (m.st.take 0).any (fun x => deepS x.s) = false := rfl
      rw [e0, e1, List.append_nil, Bool.or_false]
      obtain ⟨t', lg', h7, h8⟩ := h5
      refine ⟨t', lg', h7, fun hd => ?_⟩
      obtain ⟨q1, q2⟩ := h8 hd
      refine ⟨q1, ?_⟩
      rw [q2]
      unfold over
      rw [List.length_append, show ([] : List UInt8).length = 0 from rfl]
      by_cases hc : 1048576 < t.length + HD.length
      · rw [decide_eq_true hc, decide_eq_true (by omega)]; simp
      · rw [decide_eq_false hc, decide_eq_false (by omega)]; simp
  have CL : Hid (∀ {W : World}, Pr g B w W → MvAt W B m) := fun hW => hm.below hW.bl
  have HOK := Lib.hid hok
  have HTN := Lib.hid hT
  have HN := Lib.hid hn
  -- one round
  have RD : Hid (∀ (j : Nat) (hj : j < m.st.length) (wr : World), Vl w g B m (t ++ HD) (over t HD.length lg) dp j wr → ∃ (o : Nat) (fn : FuncId), (m.st[j]).s.kind = (o : Nat) ∧ (o : Int) < 7 ∧ (∀ args w, (callFunc fn args).run Tryz.prog w = .ok (.enter fn args) w) ∧
      Hid (Calls Tryz.prog 29 #[.pointer (some ⟨g, 0, none⟩), .string ⟨#[32, 32, 32, 32]⟩] (wr.alloc (.cells (m.st[j]).C 42)) fun e w2 => e = .returned (.tuple #[]) ∧
        Hid (CB w2.drew wr.heap.size 42 (m.st[j]).C ∧ w2.drew.cell? ⟨g, 17 + o, none⟩ = some (.func (.func fn) #[.pointer (some ⟨g, 0, none⟩)] #[])) ∧
        Hid (Calls Tryz.prog fn #[.pointer (some ⟨g, 0, none⟩), .agg (m.st[j]).C] w2.drew fun e w3 => e = .returned (.tuple #[]) ∧ Hid (CB w3 wr.heap.size 42 (m.st[j]).C ∧ w3.cell? ⟨g, 17 + o, none⟩ = some (.func (.func fn) #[.pointer (some ⟨g, 0, none⟩)] #[])) ∧
          Hid (Calls Tryz.prog 29 #[.pointer (some ⟨g, 0, none⟩), .string ⟨#[59, 10]⟩] w3 fun e w4 => e = .returned (.tuple #[]) ∧ Hid (Vl w g B m (t ++ HD) (over t HD.length lg) dp (j + 1) w4))))) := by
    intro j hj wr hV
    obtain ⟨x, hx⟩ : ∃ x, m.st[j] = x := ⟨_, rfl⟩
    have hmem : x ∈ m.st := hx ▸ List.getElem_mem hj
    have hokx : okS x.s = true := List.all_eq_true.1 HOK.out x hmem
    obtain ⟨o, fn, f1, f2, f3, f4, f5⟩ := step_fn hokx g B
    rw [hx]
    refine ⟨o, fn, f1, by omega, f4, ?_⟩
    have ba : Below wr.heap.size wr (wr.alloc (.cells x.C 42)) := (Below.refl _ wr).alloc (Nat.le_refl _) _
    have hgw := hV.z.len
    have hneb : wr.heap.size ≠ g := by omega
    have hBr := hV.z.Bw
    have kx : CB (wr.alloc (.cells x.C 42)) wr.heap.size 42 x.C := CB.new wr _ _
    have hfn : ∀ {W : World} {t : List UInt8} {lg dp : Bool}, Wz W g B t lg dp → W.cell? ⟨g, 17 + o, none⟩ = some (.func (.func fn) #[.pointer (some ⟨g, 0, none⟩)] #[]) := by
      intro W t lg dp hW
      have := hW.fn (13 + o)
      rw [List.getElem?_append_right (by rw [show (ndFns g).length = 13 from rfl]; omega), show 13 + o - (ndFns g).length = o by rw [show (ndFns g).length = 13 from rfl]; omega, f3, show 4 + (13 + o) = 17 + o by omega] at this
      exact this
    refine Calls.mono (wz_put (hV.z.below ba) [32, 32, 32, 32] (by decide)) ?_
    rintro e w2 ⟨rfl, h2, h3⟩
    have hbd : Below w2.heap.size w2 w2.drew := Below.thenN (Below.refl _ _) 1
    have h2d := h2.below hbd
    have p2 : Pr g B wr w2.drew := ((Pr.of ba hBr).trans h3).trans (Pr.of hbd h2.Bw)
    have k2 := (kx.pr h3 hneb (by decide)).pr (Pr.of hbd h2.Bw (g := g)) hneb (by decide)
    have pw := hV.pr.trans p2
    refine ⟨rfl, ⟨k2, hfn h2d⟩, ?_⟩
    refine Calls.mono (f5 h2d (HTN.out.below pw.bl) ((CL.out pw).each x hmem)) ?_
    rintro e w3 ⟨rfl, h4, h5⟩
    refine ⟨rfl, ⟨k2.pr h5 hneb (by decide), hfn h4⟩, ?_⟩
    refine Calls.mono (wz_put h4 [59, 10] (by decide)) ?_
    rintro e w4 ⟨rfl, h6, h7⟩
    refine ⟨rfl, ?_, (pw.trans h5).trans h7⟩
    have et : (m.st.take (j + 1)).flatMap (fun x => plS x.s) = (m.st.take j).flatMap (fun x => plS x.s) ++ plS x.s := by
      rw [List.take_succ_eq_append_getElem hj, List.flatMap_append, hx]
      simp
    have ed : (m.st.take (j + 1)).any (fun x => deepS x.s) = ((m.st.take j).any (fun x => deepS x.s) || deepS x.s) := by
      rw [List.take_succ_eq_append_getElem hj, List.any_append, hx]
      simp
    rw [over_cat, over_cat, over_cat] at h6
    have e4 : (t ++ HD) ++ (m.st.take (j + 1)).flatMap (fun x => plS x.s) = t ++ HD ++ (m.st.take j).flatMap (fun x => plS x.s) ++ [32, 32, 32, 32] ++ ptS x.s ++ [59, 10] := by
      rw [et]
      unfold plS
      simp only [List.append_assoc]
    have e5 : (m.st.take (j + 1)).flatMap (fun x => plS x.s) = (m.st.take j).flatMap (fun x => plS x.s) ++ [32, 32, 32, 32] ++ ptS x.s ++ [59, 10] := by
      rw [et]
      unfold plS
      simp only [List.append_assoc]
    rw [e4, e5, ed, ← Bool.or_assoc]
    simp only [List.append_assoc] at h6 ⊢
    exact h6
  have END : Hid (∀ wr, Vl w g B m (t ++ HD) (over t HD.length lg) dp n wr → Calls Tryz.prog 29 #[.pointer (some ⟨g, 0, none⟩), .string ⟨#[32, 32, 125, 10]⟩] wr fun e w' => e = .returned (.tuple #[]) ∧ Hid (ZAt g B (t ++ ptV m.v) (over t (ptV m.v).length lg) (dp || deepV m.v) w (.returned (.tuple #[])) w')) := by
    intro wr hV
    refine Calls.mono (wz_put hV.z [32, 32, 125, 10] (by decide)) ?_
    rintro e w' ⟨rfl, h2, h3⟩
    refine ⟨rfl, rfl, ?_, hV.pr.trans h3⟩
    have e1 : m.st.take n = m.st := by rw [← HN.out]; exact List.take_length
    rw [e1, over_cat, over_cat] at h2
    have e2 : ptV m.v = HD ++ (m.st.flatMap fun x => plS x.s) ++ [32, 32, 125, 10] := by
      rw [← hHD]
      unfold ptV Mv.v
      rw [List.flatMap_map]
    have e3 : deepV m.v = m.st.any fun x => deepS x.s := by
      unfold deepV Mv.v
      rw [List.any_map]
      rfl
    rw [e2, e3]
    simp only [List.append_assoc] at h2 ⊢
    exact h2
  obtain ⟨num, st, A, c, p⟩ := m
  unfold ZAt
  clear h hm hT hok b1 k1 hn hHD
  have eC : (⟨num, st, A, c, p⟩ : Mv).C = #[.int .u64 (num : Nat), .slice A st.length c, .int .i64 p] := rfl
  rw [eC] at hw1 ⊢
  clear eC
  have HN : Hid (st.length = n) := HN
  rw [HN.out] at hw1 ⊢
  go_enter Tryz.func28, Tryz.ntmps28
  go_wp2_with (first
    | (go_at_call 29; (with_reducible refine CP1.out.mono ?_); rintro e w2 ⟨rfl, c0, CF⟩)
    | (go_at_call 52; (with_reducible refine CF.out.mono ?_); rintro e w3 ⟨rfl, CW⟩)
    | (go_at_call 27; (with_reducible refine CW.out.mono ?_); rintro e w4 ⟨rfl, c1, HV⟩))
  go_loopw [17] (fun u wr => ∃ (j : Nat), u = .int .i64 j ∧ j ≤ n ∧ Hid (Vl w g B ⟨num, st, A, c, p⟩ (t ++ HD) (over t HD.length lg) dp j wr)) (fun u _ => n - (intOf u).toNat)
  case atStart => exact ⟨0, rfl, Nat.zero_le _, HV⟩
  case round =>
    clear HV
    obtain ⟨j, rfl, hjl, HF⟩ := hrel
    by_cases hlt : j < n
    · have hiz : (j : Int) < (n : Int) := by omega
      have hi0 : (0 : Int) ≤ (j : Int) := by omega
      have hjv : j < st.length := by rw [HN.out]; exact hlt
      have hgj : st[j]? = some st[j] := List.getElem?_eq_getElem hjv
      obtain ⟨o, fn, hk, ho7, hen, CA⟩ := RD.out j hjv wr HF.out
      obtain ⟨y, hy⟩ : ∃ y, st[j] = y := ⟨_, rfl⟩
      have ey : (⟨num, st, A, c, p⟩ : Mv).st[j] = y := hy
      rw [ey] at hk CA
      rw [hy] at hgj
      obtain ⟨gb, go, hA, _, ⟨x0, x1, x2, x3, x4, x5, x6, x7⟩, -⟩ := (CL.out HF.out.pr).cells hgj
      have hA : A = some ⟨gb, go, none⟩ := hA
      subst hA
      obtain ⟨⟨kind, ya, yb, yc, ysep, yty, yv, yp⟩, Ay, cy⟩ := y
      have hk : kind = (o : Int) := hk
      subst hk
      have eC : (⟨⟨(o : Int), ya, yb, yc, ysep, yty, yv, yp⟩, Ay, cy⟩ : Ms).C = #[.int .i64 (o : Int), .string (str ya), .string (str yb), .string (str yc), .string (str ysep), .string (str yty), .slice Ay yv.length cy, .int .i64 yp] := rfl
      rw [eC] at CA
      have ho0 : (0 : Int) ≤ (o : Int) := by omega
      clear hgj ey hy eC
      go_wp2_with (go_at_call 29; (with_reducible refine CA.out.mono ?_); rintro e w2 ⟨rfl, KB, CB2⟩)
      have D1 : w2.drew.cell? ⟨wr.heap.size, 0, none⟩ = some (.int .i64 (o : Int)) ∧ w2.drew.cell? ⟨wr.heap.size, 1, none⟩ = some (.string (str ya)) ∧ w2.drew.cell? ⟨wr.heap.size, 2, none⟩ = some (.string (str yb)) ∧ w2.drew.cell? ⟨wr.heap.size, 3, none⟩ = some (.string (str yc)) ∧ w2.drew.cell? ⟨wr.heap.size, 4, none⟩ = some (.string (str ysep)) ∧ w2.drew.cell? ⟨wr.heap.size, 5, none⟩ = some (.string (str yty)) ∧ w2.drew.cell? ⟨wr.heap.size, 6, none⟩ = some (.slice Ay yv.length cy) ∧ w2.drew.cell? ⟨wr.heap.size, 7, none⟩ = some (.int .i64 yp) ∧ w2.drew.cell? ⟨g, 17 + o, none⟩ = some (.func (.func fn) #[.pointer (some ⟨g, 0, none⟩)] #[]) :=
        ⟨KB.out.1.at_ 0, KB.out.1.at_ 1, KB.out.1.at_ 2, KB.out.1.at_ 3, KB.out.1.at_ 4, KB.out.1.at_ 5, KB.out.1.at_ 6, KB.out.1.at_ 7, KB.out.2⟩
      go_region_held3 (fun W => W.cell? ⟨wr.heap.size, 0, none⟩ = some (.int .i64 (o : Int)) ∧ W.cell? ⟨wr.heap.size, 1, none⟩ = some (.string (str ya)) ∧ W.cell? ⟨wr.heap.size, 2, none⟩ = some (.string (str yb)) ∧ W.cell? ⟨wr.heap.size, 3, none⟩ = some (.string (str yc)) ∧ W.cell? ⟨wr.heap.size, 4, none⟩ = some (.string (str ysep)) ∧ W.cell? ⟨wr.heap.size, 5, none⟩ = some (.string (str yty)) ∧ W.cell? ⟨wr.heap.size, 6, none⟩ = some (.slice Ay yv.length cy) ∧ W.cell? ⟨wr.heap.size, 7, none⟩ = some (.int .i64 yp) ∧ W.cell? ⟨g, 17 + o, none⟩ = some (.func (.func fn) #[.pointer (some ⟨g, 0, none⟩)] #[]))
        (first | (with_reducible exact D1) | (with_reducible exact D2) | (with_reducible assumption) | fail)
        (first
          | (go_at_fn fn; (with_reducible refine CB2.out.mono ?_); rintro e w3 ⟨rfl, KC, CC⟩; have D2 : w3.cell? ⟨wr.heap.size, 0, none⟩ = some (.int .i64 (o : Int)) ∧ w3.cell? ⟨wr.heap.size, 1, none⟩ = some (.string (str ya)) ∧ w3.cell? ⟨wr.heap.size, 2, none⟩ = some (.string (str yb)) ∧ w3.cell? ⟨wr.heap.size, 3, none⟩ = some (.string (str yc)) ∧ w3.cell? ⟨wr.heap.size, 4, none⟩ = some (.string (str ysep)) ∧ w3.cell? ⟨wr.heap.size, 5, none⟩ = some (.string (str yty)) ∧ w3.cell? ⟨wr.heap.size, 6, none⟩ = some (.slice Ay yv.length cy) ∧ w3.cell? ⟨wr.heap.size, 7, none⟩ = some (.int .i64 yp) ∧ w3.cell? ⟨g, 17 + o, none⟩ = some (.func (.func fn) #[.pointer (some ⟨g, 0, none⟩)] #[]) := ⟨KC.out.1.at_ 0, KC.out.1.at_ 1, KC.out.1.at_ 2, KC.out.1.at_ 3, KC.out.1.at_ 4, KC.out.1.at_ 5, KC.out.1.at_ 6, KC.out.1.at_ 7, KC.out.2⟩)
          | fail)
      all_goals
        clear D1 D2
        go_wp2_with (go_at_call 29; (with_reducible refine CC.out.mono ?_); rintro e w4 ⟨rfl, HN4⟩)
        go_roundw
        case rel => exact ⟨j + 1, by go_num, by omega, HN4⟩
        case measure => simp [intOf]; omega
    · obtain rfl : j = n := by omega
      have hiz : ¬ (j : Int) < (j : Int) := by omega
      have ce := END.out wr HF.out
      go_wp2_with (go_at_call 29; (with_reducible refine ce.mono ?_); rintro e w4 ⟨rfl, H4⟩)
      go_end0
      exact H4.out
end Go.Proofs.YtipcgmaobiobbaaGreatDoor
