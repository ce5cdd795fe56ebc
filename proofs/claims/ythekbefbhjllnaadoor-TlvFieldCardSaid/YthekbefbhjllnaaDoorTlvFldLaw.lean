/- The walk of TlvField. -/
import Derived.Test.YthekbefbhjllnaaDoorTlvPieLaw
import Derived.Lib.ConvBytes
namespace Go.Proofs.YthekbefbhjllnaaDoor
open Go.RowKit
open Go.Lib (byteCells uvarint)

set_option maxRecDepth 100000 in
set_option maxHeartbeats 2000000 in
theorem field_big {w : World} (h : KSt w w) (f : Fd) (hbig : 33554432 < f.v.s.size) (hs : f.v.s.size ≤ 140737488355328) : Calls Tryd.prog 8 #[.agg (ffC f)] w (Yes w) := by
  have bx := BoxF.new w f 41
  have h0 := h.new (.cells (ffC f) 41)
  obtain ⟨t, v⟩ := f
  obtain ⟨k, n, s⟩ := v
  have HBX := Lib.hid bx
  clear bx
  unfold ffC at *
  dsimp only at *
  go_enter Tryd.func8, Tryd.ntmps8
  go_wp2_with (go_at_call 11; refine (lives_any h0).mono ?_; rintro e w1 ⟨rfl, hb1⟩; have h1 := h0.then_ hb1; obtain ⟨b0, b1, b2, b3⟩ := HBX.out.then_ hb1)
  go_ret
  exact ⟨rfl, h1.below⟩

/-- one field as a list of its own that was just laid -/
theorem e_encode {w0 w : World} (f : Fd) (hg : Good [f]) (hl : Light [f]) (h : KSt w0 w) :
    Calls Tryd.prog 16 #[.slice (some ⟨w.heap.size, 0, none⟩) 1 1] (w.alloc (.cells (ffC f) 41)) fun e w' => ∃ A' c', e = .returned (.tuple #[.slice A' (cby [f]).length c', .int .i64 (cer [f])]) ∧ KSt w0 w' ∧ Byt w' w'.heap.size A' (cby [f]) ∧ Below w.heap.size w w' := by
  have hh := h.new (.cells (ffC f) 41)
  refine (encode_any hh 1 (FRow.made w [f] (ffC f) rfl 41) hg hl).mono ?_
  rintro e w' ⟨A', c', he, ho, hb⟩
  exact ⟨A', c', he, hh.then_ hb, ho.reads, ((Below.refl _ _).alloc (Nat.le_refl _) _).trans (hb.mono (by simp))⟩
theorem one_good {f : Fd} (hf : Fit f.v) (hs : f.v.s.size ≤ 33554432) : Good [f] ∧ Light [f] := by
  refine ⟨fun g hg => ?_, ⟨by simp, ?_⟩⟩
  · simp only [List.mem_cons, List.not_mem_nil, or_false] at hg
    subst hg
    exact ⟨hf, by omega⟩
  · rw [texts_cons, texts_nil]; omega
theorem one_bad {f : Fd} (h : canF f 0 = false) : cer [f] = 1 ∧ cby [f] = [] := by
  have := cer_bad (l := [f]) (i := 0) (f := f) rfl trivial h
  exact ⟨this.1, this.2.2.2⟩
theorem one_is {f : Fd} (h : canF f 0 = true) (hf : Fit f.v) : Is 0 [f] := ⟨h, hf, trivial⟩

set_option maxRecDepth 100000 in
set_option maxHeartbeats 2000000 in
theorem field_bad {w : World} (h : KSt w w) (f : Fd) (hf : Fit f.v) (hs : f.v.s.size ≤ 33554432) (hc : canF f 0 = false) : Calls Tryd.prog 8 #[.agg (ffC f)] w (Yes w) := by
  have bx := BoxF.new w f 41
  have h0 := h.new (.cells (ffC f) 41)
  obtain ⟨g1, g2⟩ := one_good hf hs
  have ce := fun {W : World} (q : KSt w W) => e_encode f g1 g2 q
  obtain ⟨z1, z2⟩ := one_bad hc
  simp only [z1, z2] at ce
  have cv := fun {W : World} (q : KSt w W) => kval_any q f.v hf (by omega)
  have hcan : ¬ (1 ≤ f.t) ∨ ¬ (f.t ≤ 65535) ∨ okV f.v = false := by
    simp only [canF, Bool.and_eq_false_iff, decide_eq_false_iff_not] at hc
    rcases hc with (g | g) | g
    · exact .inl (by omega)
    · exact .inr (.inl g)
    · exact .inr (.inr g)
  clear z1 z2 g1 g2 hc hf
  obtain ⟨t, v⟩ := f
  obtain ⟨k, n, s⟩ := v
  have HBX := Lib.hid bx
  clear bx
  unfold ffC vvC at *
  dsimp only at *
  obtain ⟨V, hV⟩ : ∃ V, okV ⟨k, n, s⟩ = V := ⟨_, rfl⟩
  simp only [hV] at cv hcan
  clear hV
  have hcan2 : ¬ (1 ≤ t) ∨ (1 ≤ t ∧ ¬ (t ≤ 65535)) ∨ (1 ≤ t ∧ t ≤ 65535 ∧ V = false) := by
    by_cases a : 1 ≤ t
    · by_cases b : t ≤ 65535
      · rcases hcan with g | g | g
        · exact absurd a g
        · exact absurd b g
        · exact .inr (.inr ⟨a, b, g⟩)
      · exact .inr (.inl ⟨a, b⟩)
    · exact .inl a
  clear hcan
  rcases hcan2 with g | ⟨g, g'⟩ | ⟨g, g', rfl⟩
  all_goals
    go_enter Tryd.func8, Tryd.ntmps8
    go_wp2_with (first
      | (go_at_call 11; refine (lives_any h0).mono ?_; rintro e w1 ⟨rfl, hb1⟩; have h1 := h0.then_ hb1; have hbx1 := Lib.hid (HBX.out.then_ hb1); obtain ⟨b0, b1, b2, b3⟩ := hbx1.out)
      | (go_at_call 23; refine (cv h1).mono ?_; rintro e w2 ⟨rfl, hb2⟩; have h2 := h1.then_ hb2; obtain ⟨b0, b1, b2, b3⟩ := hbx1.out.then_ hb2)
      | (go_at_call 16; refine (ce (by assumption)).mono ?_; rintro e w3 ⟨A3, c3, rfl, h3, hr3, hb3⟩))
    go_ret
    exact ⟨rfl, h3.below⟩
/-- the bytes of a text in new memory -/
theorem bytes_of_str (W : World) (s : ByteArray) (p : List UInt8) (hp : p = s.data.toList) : ∃ A c W', (convert 9 28 (.string s)).run Tryd.prog W = .ok (.slice A p.length c) W' ∧ Byt W' W'.heap.size A p ∧ Below W.heap.size W W' := by
  subst hp
  refine ⟨_, _, _, by rw [← Lib.size_eq]; exact Go.Lib.run_convert_string_bytes W 9 28 5 s Tryd.underlying9 Tryd.underlying28 Tryd.underlying5, ?_, ?_⟩
  · refine .inr ⟨W.heap.size, 0, rfl, by rw [Go.Lib.bytesWorld_size]; omega, fun j hj => ?_⟩
    rw [Nat.zero_add, Go.Lib.bytesWorld_cell W 5 s j (by rw [Lib.size_eq]; exact hj)]
    simp only [List.getD, List.getElem?_eq_getElem hj, Option.getD_some]
  · refine ⟨rfl, rfl, rfl, by rw [Go.Lib.bytesWorld_size]; omega, fun j hj => Go.Lib.bytesWorld_at_old W _ s j hj⟩
/-- At the operation, out of a run equation: a conversion. -/
theorem wpList_convert_run {P : Program} {w w' : World} {ops : Array Oper} {rest : List Oper} {o : Oper} {a : Act} {Q : Exit → Act → World → Prop} (hgd : o.guard = none) (S T : TypeId) (x : Operand)
    (ho : o.op = .convert S T x) {u v : Value} (hx : a.eval x = u) (hrun : (convert S T u).run P w = .ok v w') (h : wpList P ops Q rest (a.put o.dst v) w') : wpList P ops Q (o :: rest) a w :=
  wpList_plain hgd fun _ hK => by
    unfold Oper.wp execOp
    simp only [ho, Sem.run_bind, Sem.run_pure, Result.andThen_ok, hx, hrun]
    exact hK _ _ h

theorem cp_as (x : Nat) (u : List UInt8) (hu : uvarint x = u) (z : Int) (hz : z = x) (hx : x ≤ 18446744073709551615) (W : World) : Calls Tryd.prog 25 #[.slice none 0 0, .int .u64 z] W (NewRow W u) := by
  subst hz hu; exact put_nil x W hx
theorem new_reads {W w' : World} {l : List UInt8} {g cap : Nat} (h : w'.ownsRow W.heap.size 5 1 (.slice (some ⟨g, 0, none⟩) l.length cap) l.length (byteCells l)) : Byt w' w'.heap.size (some ⟨g, 0, none⟩) l := (Byt.own h).2
theorem made_of {w0 w : World} (_ : KSt w0 w) (cs : Array Value) (l : List UInt8) (h : cs.toList = byteCells l) (T : TypeId) : Byt (w.alloc (.cells cs T)) (w.alloc (.cells cs T)).heap.size (some ⟨w.heap.size, 0, none⟩) l := Byt.made w cs l h T
theorem cp_on (u p hd : List UInt8) (hh : hd = u ++ uvarint p.length) (hu : u.length ≤ 1099511627776) (hp : p.length ≤ 18446744073709551615) {W : World} {A : Option Addr} {c : Nat} (hA : Byt W W.heap.size A u) :
    Calls Tryd.prog 25 #[.slice A u.length c, .int .u64 (p.length : Int)] W (NewRow W hd) := by
  subst hh; exact put_any c p.length hA hu hp
theorem fb_small {f : Fd} {last : Int} (h : canF f last = true) (h0 : 0 ≤ last) (hf : Fit f.v) (hk : isNum f.v.k = true) : (fb f).length ≤ 30 := by
  have h1 := ok_num (can_parts h).2.2 hk
  have := fb_le h h0 hf (by rw [h1]; exact Nat.zero_le _)
  rw [h1] at this
  exact this
/-- what a field's bytes are put together of -/
theorem fb_parts (f : Fd) : ∃ u hd : List UInt8, uvarint (keyF f).toNat = u ∧ hd = u ++ uvarint (pay f.v).length ∧ fb f = hd ++ pay f.v ∧ u.length ≤ (fb f).length ∧ hd.length + (pay f.v).length = (fb f).length := by
  refine ⟨_, _, rfl, rfl, ?_, ?_, ?_⟩
  · unfold fb; rw [List.append_assoc]
  · unfold fb; rw [List.length_append]; omega
  · unfold fb; rw [List.length_append, List.length_append, List.length_append]; omega

set_option maxRecDepth 100000 in
set_option maxHeartbeats 4000000 in
theorem field_uint {w : World} (h : KSt w w) (f : Fd) (hf : Fit f.v) (hs : f.v.s.size ≤ 33554432) (hc : canF f 0 = true) (hk : f.v.k = 1) : Calls Tryd.prog 8 #[.agg (ffC f)] w (Yes w) := by
  have bx := BoxF.new w f 41
  have h0 := h.new (.cells (ffC f) 41)
  obtain ⟨g1, g2⟩ := one_good hf hs
  have ce := fun {W : World} (q : KSt w W) => e_encode f g1 g2 q
  have his := one_is hc hf
  have cv := fun {W : World} (q : KSt w W) => kval_any q f.v hf (by omega)
  rw [(can_parts hc).2.2] at cv
  obtain ⟨t0, t1, k0, k1⟩ := can_key hc (Int.le_refl 0)
  have t0 : 1 ≤ f.t := by have := (can_parts hc).1; omega
  obtain ⟨u, hd, hu, hhd, hfb, hul, hhl⟩ := fb_parts f
  have hkr := key_range hc (Int.le_refl 0)
  obtain ⟨K, hK⟩ : ∃ K, (keyF f).toNat = K := ⟨_, rfl⟩
  have hK2 : 8 * f.t + f.v.k = (K : Int) := by have : keyF f = 8 * f.t + f.v.k := rfl; omega
  have hKb : K ≤ 18446744073709551615 := by omega
  rw [hK] at hu
  have cpk := fun (W : World) => cp_as K u hu (8 * f.t + f.v.k) hK2 hKb W
  have hsm := fb_small hc (Int.le_refl 0) hf (by rw [hk]; rfl)
  have hfl : (fb f).length ≤ 16777215 := by omega
  have hm : (enc [f]).length ≤ 16777215 := by rw [enc_one]; exact hfl
  obtain ⟨z1, _, _, z4⟩ := cer_ok his hm
  obtain ⟨p, hp⟩ : ∃ p, pay f.v = p := ⟨_, rfl⟩
  have hpv : uvarint f.v.n.toNat = p := by rw [← hp]; unfold pay pnum; rw [hk]; rfl
  obtain ⟨N, hN⟩ := Int.eq_ofNat_of_zero_le hf.1
  have cpn := fun (W : World) => cp_as f.v.n.toNat p hpv f.v.n (by omega) (by have := hf.2; omega) W
  rw [hp] at hhd hfb hhl
  have cph := fun {W : World} {A : Option Addr} {c : Nat} (hA : Byt W W.heap.size A u) => cp_on u p hd hhd (by omega) (by omega) (W := W) (A := A) (c := c) hA
  simp only [z1, z4, enc_one, hfb] at ce
  rw [enc_one, hfb] at hm
  rw [hfb] at hfl hhl hul
  rw [List.length_append] at hm hfl
  obtain ⟨r, hr⟩ : ∃ r, r = hd ++ p := ⟨_, rfl⟩
  rw [← hr] at ce
  have heq : ((str r).toList == (str hd ++ str p).toList) = true := by rw [str_app, hr]; simp
  have hsz : ¬ 9223372036854775807 < (str hd).size + (str p).size := by rw [str_size, str_size]; omega
  clear z1 z4 g1 g2 his hc hu hhd hfb hkr hK hK2 hKb hp hr hf hul hhl hN hpv hsm
  obtain ⟨t, v⟩ := f
  obtain ⟨k, n, s⟩ := v
  have HBX := Lib.hid bx
  clear bx
  unfold ffC vvC at *
  dsimp only at *
  subst hk
  go_enter Tryd.func8, Tryd.ntmps8
  go_wp2_with (first
    | (go_at_call 11; refine (lives_any h0).mono ?_; rintro e w1 ⟨rfl, hb1⟩; have h1 := h0.then_ hb1; have hbx1 := Lib.hid (HBX.out.then_ hb1); obtain ⟨b0, b1, b2, b3⟩ := hbx1.out)
    | (go_at_call 23; refine (cv h1).mono ?_; rintro e w2 ⟨rfl, hb2⟩; have h2 := h1.then_ hb2; have hbx2 := Lib.hid (hbx1.out.then_ hb2); obtain ⟨b0, b1, b2, b3⟩ := hbx2.out)
    | (go_at_call 16; refine (ce h2).mono ?_; rintro e w3 ⟨A3, c3, rfl, h3, hr3, hb3⟩; have hbx3 := Lib.hid (hbx2.out.then_ hb3); obtain ⟨b0, b1, b2, b3⟩ := hbx3.out)
    | (go_at_call 24; refine (uint_any h3.k).mono ?_; rintro e w' ⟨rfl, rfl⟩)
    | (go_at_call 26; refine (int_any h3.k).mono ?_; rintro e w' ⟨rfl, rfl⟩)
)
  refine (cpn _).mono ?_
  rintro e w4 ⟨g4, cap4, rfl, ho4, hb4⟩
  have h4 := h3.then_ hb4
  have hr4 := hr3.then_ hb4
  have hp4 := new_reads ho4
  obtain ⟨b0, b1, b2, b3⟩ := hbx3.out.then_ hb4
  go_wp2_with fail
  refine (cpk _).mono ?_
  rintro e w5 ⟨g5, cap5, rfl, ho5, hb5⟩
  have h5 := h4.then_ hb5
  have hr5 := hr4.then_ hb5
  have hp5 := hp4.then_ hb5
  have hu5 := new_reads ho5
  go_wp2_with fail
  refine (cph hu5).mono ?_
  rintro e w6 ⟨g6, cap6, rfl, ho6, hb6⟩
  have h6 := h5.then_ hb6
  have hh6 := new_reads ho6
  have hr6 := hr5.then_ hb6
  have hp6 := hp5.then_ hb6
  have y1 := run_str (P := Tryd.prog) hr6 28 5 9 Tryd.underlying28 Tryd.underlying5 Tryd.underlying9 c3
  have y2 := run_str (P := Tryd.prog) hh6 28 5 9 Tryd.underlying28 Tryd.underlying5 Tryd.underlying9 cap6
  have y3 := run_str (P := Tryd.prog) hp6 28 5 9 Tryd.underlying28 Tryd.underlying5 Tryd.underlying9 cap4
  go_wp2
  go_ret
  exact ⟨rfl, h6.below⟩

set_option maxRecDepth 100000 in
set_option maxHeartbeats 4000000 in
theorem field_int {w : World} (h : KSt w w) (f : Fd) (hf : Fit f.v) (hs : f.v.s.size ≤ 33554432) (hc : canF f 0 = true) (hk : f.v.k = 2) : Calls Tryd.prog 8 #[.agg (ffC f)] w (Yes w) := by
  have bx := BoxF.new w f 41
  have h0 := h.new (.cells (ffC f) 41)
  obtain ⟨g1, g2⟩ := one_good hf hs
  have ce := fun {W : World} (q : KSt w W) => e_encode f g1 g2 q
  have his := one_is hc hf
  have cv := fun {W : World} (q : KSt w W) => kval_any q f.v hf (by omega)
  rw [(can_parts hc).2.2] at cv
  obtain ⟨t0, t1, k0, k1⟩ := can_key hc (Int.le_refl 0)
  have t0 : 1 ≤ f.t := by have := (can_parts hc).1; omega
  obtain ⟨u, hd, hu, hhd, hfb, hul, hhl⟩ := fb_parts f
  have hkr := key_range hc (Int.le_refl 0)
  obtain ⟨K, hK⟩ : ∃ K, (keyF f).toNat = K := ⟨_, rfl⟩
  have hK2 : 8 * f.t + f.v.k = (K : Int) := by have : keyF f = 8 * f.t + f.v.k := rfl; omega
  have hKb : K ≤ 18446744073709551615 := by omega
  rw [hK] at hu
  have cpk := fun (W : World) => cp_as K u hu (8 * f.t + f.v.k) hK2 hKb W
  have hsm := fb_small hc (Int.le_refl 0) hf (by rw [hk]; rfl)
  have hfl : (fb f).length ≤ 16777215 := by omega
  have hm : (enc [f]).length ≤ 16777215 := by rw [enc_one]; exact hfl
  obtain ⟨z1, _, _, z4⟩ := cer_ok his hm
  obtain ⟨p, hp⟩ : ∃ p, pay f.v = p := ⟨_, rfl⟩
  have hpv : uvarint (zig (sgn f.v.n)).toNat = p := by rw [← hp]; unfold pay pnum; rw [hk]; rfl
  have hsr := sgn_range hf.1 hf.2
  have hzr := zig_range hsr.1 hsr.2
  have hws := wrap_sgn2 f.v.n hf.1 hf.2
  have hn0 := hf.1
  have cpn := fun (W : World) => cp_as (zig (sgn f.v.n)).toNat p hpv (zig (sgn f.v.n)) (by omega) (by omega) W
  have czg := fun (W : World) => zig_any (sgn f.v.n) W hsr.1 hsr.2
  obtain ⟨Z, hZ⟩ : ∃ Z, sgn f.v.n = Z := ⟨_, rfl⟩
  simp only [hZ] at hws cpn czg
  obtain ⟨G, hG⟩ : ∃ G, zig Z = G := ⟨_, rfl⟩
  simp only [hG] at cpn czg
  rw [hp] at hhd hfb hhl
  have cph := fun {W : World} {A : Option Addr} {c : Nat} (hA : Byt W W.heap.size A u) => cp_on u p hd hhd (by omega) (by omega) (W := W) (A := A) (c := c) hA
  simp only [z1, z4, enc_one, hfb] at ce
  rw [enc_one, hfb] at hm
  rw [hfb] at hfl hhl hul
  rw [List.length_append] at hm hfl
  obtain ⟨r, hr⟩ : ∃ r, r = hd ++ p := ⟨_, rfl⟩
  rw [← hr] at ce
  have heq : ((str r).toList == (str hd ++ str p).toList) = true := by rw [str_app, hr]; simp
  have hsz : ¬ 9223372036854775807 < (str hd).size + (str p).size := by rw [str_size, str_size]; omega
  clear z1 z4 g1 g2 his hc hu hhd hfb hkr hK hK2 hKb hp hr hf hul hhl hpv hsm hsr hzr hZ hG
  obtain ⟨t, v⟩ := f
  obtain ⟨k, n, s⟩ := v
  have HBX := Lib.hid bx
  clear bx
  unfold ffC vvC at *
  dsimp only at *
  subst hk
  go_enter Tryd.func8, Tryd.ntmps8
  go_wp2_with (first
    | (go_at_call 11; refine (lives_any h0).mono ?_; rintro e w1 ⟨rfl, hb1⟩; have h1 := h0.then_ hb1; have hbx1 := Lib.hid (HBX.out.then_ hb1); obtain ⟨b0, b1, b2, b3⟩ := hbx1.out)
    | (go_at_call 23; refine (cv h1).mono ?_; rintro e w2 ⟨rfl, hb2⟩; have h2 := h1.then_ hb2; have hbx2 := Lib.hid (hbx1.out.then_ hb2); obtain ⟨b0, b1, b2, b3⟩ := hbx2.out)
    | (go_at_call 16; refine (ce h2).mono ?_; rintro e w3 ⟨A3, c3, rfl, h3, hr3, hb3⟩; have hbx3 := Lib.hid (hbx2.out.then_ hb3); obtain ⟨b0, b1, b2, b3⟩ := hbx3.out)
    | (go_at_call 24; refine (uint_any h3.k).mono ?_; rintro e w' ⟨rfl, rfl⟩)
    | (go_at_call 26; refine (int_any h3.k).mono ?_; rintro e w' ⟨rfl, rfl⟩)
    | (go_at_call 27; refine (czg _).mono ?_; rintro e w' ⟨rfl, rfl⟩))
  refine (cpn _).mono ?_
  rintro e w4 ⟨g4, cap4, rfl, ho4, hb4⟩
  have h4 := h3.then_ hb4
  have hr4 := hr3.then_ hb4
  have hp4 := new_reads ho4
  obtain ⟨b0, b1, b2, b3⟩ := hbx3.out.then_ hb4
  go_wp2_with fail
  refine (cpk _).mono ?_
  rintro e w5 ⟨g5, cap5, rfl, ho5, hb5⟩
  have h5 := h4.then_ hb5
  have hr5 := hr4.then_ hb5
  have hp5 := hp4.then_ hb5
  have hu5 := new_reads ho5
  go_wp2_with fail
  refine (cph hu5).mono ?_
  rintro e w6 ⟨g6, cap6, rfl, ho6, hb6⟩
  have h6 := h5.then_ hb6
  have hh6 := new_reads ho6
  have hr6 := hr5.then_ hb6
  have hp6 := hp5.then_ hb6
  have y1 := run_str (P := Tryd.prog) hr6 28 5 9 Tryd.underlying28 Tryd.underlying5 Tryd.underlying9 c3
  have y2 := run_str (P := Tryd.prog) hh6 28 5 9 Tryd.underlying28 Tryd.underlying5 Tryd.underlying9 cap6
  have y3 := run_str (P := Tryd.prog) hp6 28 5 9 Tryd.underlying28 Tryd.underlying5 Tryd.underlying9 cap4
  go_wp2
  go_ret
  exact ⟨rfl, h6.below⟩

set_option maxRecDepth 100000 in
set_option maxHeartbeats 4000000 in
theorem field_zero {w : World} (h : KSt w w) (f : Fd) (hf : Fit f.v) (hs : f.v.s.size ≤ 33554432) (hc : canF f 0 = true) (hk : f.v.k = 3) (hn : f.v.n = 0) : Calls Tryd.prog 8 #[.agg (ffC f)] w (Yes w) := by
  have bx := BoxF.new w f 41
  have h0 := h.new (.cells (ffC f) 41)
  obtain ⟨g1, g2⟩ := one_good hf hs
  have ce := fun {W : World} (q : KSt w W) => e_encode f g1 g2 q
  have his := one_is hc hf
  have cv := fun {W : World} (q : KSt w W) => kval_any q f.v hf (by omega)
  rw [(can_parts hc).2.2] at cv
  obtain ⟨t0, t1, k0, k1⟩ := can_key hc (Int.le_refl 0)
  have t0 : 1 ≤ f.t := by have := (can_parts hc).1; omega
  obtain ⟨u, hd, hu, hhd, hfb, hul, hhl⟩ := fb_parts f
  have hkr := key_range hc (Int.le_refl 0)
  obtain ⟨K, hK⟩ : ∃ K, (keyF f).toNat = K := ⟨_, rfl⟩
  have hK2 : 8 * f.t + f.v.k = (K : Int) := by have : keyF f = 8 * f.t + f.v.k := rfl; omega
  have hKb : K ≤ 18446744073709551615 := by omega
  rw [hK] at hu
  have cpk := fun (W : World) => cp_as K u hu (8 * f.t + f.v.k) hK2 hKb W
  have hsm := fb_small hc (Int.le_refl 0) hf (by rw [hk]; rfl)
  have hfl : (fb f).length ≤ 16777215 := by omega
  have hm : (enc [f]).length ≤ 16777215 := by rw [enc_one]; exact hfl
  obtain ⟨z1, _, _, z4⟩ := cer_ok his hm
  obtain ⟨p, hp⟩ : ∃ p, pay f.v = p := ⟨_, rfl⟩
  have hpv : [(0 : UInt8)] = p := by rw [← hp]; unfold pay pnum; rw [hk, hn]; show _ = uvarint _; exact (uv_small (by decide) (by decide)).symm
  have hpl : p.length = 1 := by rw [← hpv]; rfl
  have hpc : (#[Value.int .u8 0] : Array Value).toList = byteCells p := by rw [← hpv]; rfl
  rw [hp] at hhd hfb hhl
  have cph := fun {W : World} {A : Option Addr} {c : Nat} (hA : Byt W W.heap.size A u) => cp_on u p hd hhd (by omega) (by omega) (W := W) (A := A) (c := c) hA
  simp only [z1, z4, enc_one, hfb] at ce
  rw [enc_one, hfb] at hm
  rw [hfb] at hfl hhl hul
  rw [List.length_append] at hm hfl
  obtain ⟨r, hr⟩ : ∃ r, r = hd ++ p := ⟨_, rfl⟩
  rw [← hr] at ce
  have heq : ((str r).toList == (str hd ++ str p).toList) = true := by rw [str_app, hr]; simp
  have hsz : ¬ 9223372036854775807 < (str hd).size + (str p).size := by rw [str_size, str_size]; omega
  clear z1 z4 g1 g2 his hc hu hhd hfb hkr hK hK2 hKb hp hr hf hul hhl hpv hsm
  obtain ⟨t, v⟩ := f
  obtain ⟨k, n, s⟩ := v
  have HBX := Lib.hid bx
  clear bx
  unfold ffC vvC at *
  dsimp only at *
  subst hk hn
  have zz : ((1 : Nat) : Int) = 1 := rfl
  simp only [hpl, zz] at cph
  have HM := Lib.hid hm
  clear hm hfl
  have HPL := Lib.hid hpl
  have HPC := Lib.hid hpc
  clear hpl zz hpc
  go_enter Tryd.func8, Tryd.ntmps8
  go_wp2_with (first
    | (go_at_call 11; refine (lives_any h0).mono ?_; rintro e w1 ⟨rfl, hb1⟩; have h1 := h0.then_ hb1; have hbx1 := Lib.hid (HBX.out.then_ hb1); obtain ⟨b0, b1, b2, b3⟩ := hbx1.out)
    | (go_at_call 23; refine (cv h1).mono ?_; rintro e w2 ⟨rfl, hb2⟩; have h2 := h1.then_ hb2; have hbx2 := Lib.hid (hbx1.out.then_ hb2); obtain ⟨b0, b1, b2, b3⟩ := hbx2.out)
    | (go_at_call 16; refine (ce h2).mono ?_; rintro e w3 ⟨A3, c3, rfl, h3, hr3, hb3⟩; have hbx3 := Lib.hid (hbx2.out.then_ hb3); obtain ⟨b0, b1, b2, b3⟩ := hbx3.out; have hz3 := hbx3.out.lt)
    | (go_at_call 24; refine (uint_any h3.k).mono ?_; rintro e w' ⟨rfl, rfl⟩)
    | (go_at_call 26; refine (int_any h3.k).mono ?_; rintro e w' ⟨rfl, rfl⟩)
    | (go_at_call 28; refine (bool_any h3.k).mono ?_; rintro e w' ⟨rfl, rfl⟩))
  have h4 := h3.new (.cells #[.int .u8 0] 5)
  have hr4 := hr3.then_ ((Below.refl _ _).alloc (Nat.le_refl _) (.cells #[.int .u8 0] 5))
  have hp4 := made_of h3 #[.int .u8 0] p HPC.out 5
  go_wp2_with fail
  refine (cpk _).mono ?_
  rintro e w5 ⟨g5, cap5, rfl, ho5, hb5⟩
  have h5 := h4.then_ hb5
  have hr5 := hr4.then_ hb5
  have hp5 := hp4.then_ hb5
  have hu5 := new_reads ho5
  go_wp2_with fail
  refine (cph hu5).mono ?_
  rintro e w6 ⟨g6, cap6, rfl, ho6, hb6⟩
  have h6 := h5.then_ hb6
  have hh6 := new_reads ho6
  have hr6 := hr5.then_ hb6
  have hp6 := hp5.then_ hb6
  have y1 := run_str (P := Tryd.prog) hr6 28 5 9 Tryd.underlying28 Tryd.underlying5 Tryd.underlying9 c3
  have y2 := run_str (P := Tryd.prog) hh6 28 5 9 Tryd.underlying28 Tryd.underlying5 Tryd.underlying9 cap6
  have y3 := run_str (P := Tryd.prog) hp6 28 5 9 Tryd.underlying28 Tryd.underlying5 Tryd.underlying9 1
  rw [HPL.out] at y3
  obtain ⟨H, hH⟩ : ∃ H : Int, (hd.length : Int) = H := ⟨_, rfl⟩
  have hlz : ¬ (16777215 < H + 1) := by have a := HM.out; have b := HPL.out; omega
  go_wp2
  go_ret
  exact ⟨rfl, h6.below⟩

set_option maxRecDepth 100000 in
set_option maxHeartbeats 4000000 in
theorem field_one {w : World} (h : KSt w w) (f : Fd) (hf : Fit f.v) (hs : f.v.s.size ≤ 33554432) (hc : canF f 0 = true) (hk : f.v.k = 3) (hn : f.v.n = 1) : Calls Tryd.prog 8 #[.agg (ffC f)] w (Yes w) := by
  have bx := BoxF.new w f 41
  have h0 := h.new (.cells (ffC f) 41)
  obtain ⟨g1, g2⟩ := one_good hf hs
  have ce := fun {W : World} (q : KSt w W) => e_encode f g1 g2 q
  have his := one_is hc hf
  have cv := fun {W : World} (q : KSt w W) => kval_any q f.v hf (by omega)
  rw [(can_parts hc).2.2] at cv
  obtain ⟨t0, t1, k0, k1⟩ := can_key hc (Int.le_refl 0)
  have t0 : 1 ≤ f.t := by have := (can_parts hc).1; omega
  obtain ⟨u, hd, hu, hhd, hfb, hul, hhl⟩ := fb_parts f
  have hkr := key_range hc (Int.le_refl 0)
  obtain ⟨K, hK⟩ : ∃ K, (keyF f).toNat = K := ⟨_, rfl⟩
  have hK2 : 8 * f.t + f.v.k = (K : Int) := by have : keyF f = 8 * f.t + f.v.k := rfl; omega
  have hKb : K ≤ 18446744073709551615 := by omega
  rw [hK] at hu
  have cpk := fun (W : World) => cp_as K u hu (8 * f.t + f.v.k) hK2 hKb W
  have hsm := fb_small hc (Int.le_refl 0) hf (by rw [hk]; rfl)
  have hfl : (fb f).length ≤ 16777215 := by omega
  have hm : (enc [f]).length ≤ 16777215 := by rw [enc_one]; exact hfl
  obtain ⟨z1, _, _, z4⟩ := cer_ok his hm
  obtain ⟨p, hp⟩ : ∃ p, pay f.v = p := ⟨_, rfl⟩
  have hpv : [(1 : UInt8)] = p := by rw [← hp]; unfold pay pnum; rw [hk, hn]; show _ = uvarint _; exact (uv_small (by decide) (by decide)).symm
  have hpl : p.length = 1 := by rw [← hpv]; rfl
  have hpc : (#[Value.int .u8 1] : Array Value).toList = byteCells p := by rw [← hpv]; rfl
  rw [hp] at hhd hfb hhl
  have cph := fun {W : World} {A : Option Addr} {c : Nat} (hA : Byt W W.heap.size A u) => cp_on u p hd hhd (by omega) (by omega) (W := W) (A := A) (c := c) hA
  simp only [z1, z4, enc_one, hfb] at ce
  rw [enc_one, hfb] at hm
  rw [hfb] at hfl hhl hul
  rw [List.length_append] at hm hfl
  obtain ⟨r, hr⟩ : ∃ r, r = hd ++ p := ⟨_, rfl⟩
  rw [← hr] at ce
  have heq : ((str r).toList == (str hd ++ str p).toList) = true := by rw [str_app, hr]; simp
  have hsz : ¬ 9223372036854775807 < (str hd).size + (str p).size := by rw [str_size, str_size]; omega
  clear z1 z4 g1 g2 his hc hu hhd hfb hkr hK hK2 hKb hp hr hf hul hhl hpv hsm
  obtain ⟨t, v⟩ := f
  obtain ⟨k, n, s⟩ := v
  have HBX := Lib.hid bx
  clear bx
  unfold ffC vvC at *
  dsimp only at *
  subst hk hn
  have zz : ((1 : Nat) : Int) = 1 := rfl
  simp only [hpl, zz] at cph
  have HM := Lib.hid hm
  clear hm hfl
  have HPL := Lib.hid hpl
  have HPC := Lib.hid hpc
  clear hpl zz hpc
  go_enter Tryd.func8, Tryd.ntmps8
  go_wp2_with (first
    | (go_at_call 11; refine (lives_any h0).mono ?_; rintro e w1 ⟨rfl, hb1⟩; have h1 := h0.then_ hb1; have hbx1 := Lib.hid (HBX.out.then_ hb1); obtain ⟨b0, b1, b2, b3⟩ := hbx1.out)
    | (go_at_call 23; refine (cv h1).mono ?_; rintro e w2 ⟨rfl, hb2⟩; have h2 := h1.then_ hb2; have hbx2 := Lib.hid (hbx1.out.then_ hb2); obtain ⟨b0, b1, b2, b3⟩ := hbx2.out)
    | (go_at_call 16; refine (ce h2).mono ?_; rintro e w3 ⟨A3, c3, rfl, h3, hr3, hb3⟩; have hbx3 := Lib.hid (hbx2.out.then_ hb3); obtain ⟨b0, b1, b2, b3⟩ := hbx3.out; have hz3 := hbx3.out.lt)
    | (go_at_call 24; refine (uint_any h3.k).mono ?_; rintro e w' ⟨rfl, rfl⟩)
    | (go_at_call 26; refine (int_any h3.k).mono ?_; rintro e w' ⟨rfl, rfl⟩)
    | (go_at_call 28; refine (bool_any h3.k).mono ?_; rintro e w' ⟨rfl, rfl⟩))
  have h4 := h3.new (.cells #[.int .u8 1] 5)
  have hr4 := hr3.then_ ((Below.refl _ _).alloc (Nat.le_refl _) (.cells #[.int .u8 1] 5))
  have hp4 := made_of h3 #[.int .u8 1] p HPC.out 5
  go_wp2_with fail
  refine (cpk _).mono ?_
  rintro e w5 ⟨g5, cap5, rfl, ho5, hb5⟩
  have h5 := h4.then_ hb5
  have hr5 := hr4.then_ hb5
  have hp5 := hp4.then_ hb5
  have hu5 := new_reads ho5
  go_wp2_with fail
  refine (cph hu5).mono ?_
  rintro e w6 ⟨g6, cap6, rfl, ho6, hb6⟩
  have h6 := h5.then_ hb6
  have hh6 := new_reads ho6
  have hr6 := hr5.then_ hb6
  have hp6 := hp5.then_ hb6
  have y1 := run_str (P := Tryd.prog) hr6 28 5 9 Tryd.underlying28 Tryd.underlying5 Tryd.underlying9 c3
  have y2 := run_str (P := Tryd.prog) hh6 28 5 9 Tryd.underlying28 Tryd.underlying5 Tryd.underlying9 cap6
  have y3 := run_str (P := Tryd.prog) hp6 28 5 9 Tryd.underlying28 Tryd.underlying5 Tryd.underlying9 1
  rw [HPL.out] at y3
  obtain ⟨H, hH⟩ : ∃ H : Int, (hd.length : Int) = H := ⟨_, rfl⟩
  have hlz : ¬ (16777215 < H + 1) := by have a := HM.out; have b := HPL.out; omega
  go_wp2
  go_ret
  exact ⟨rfl, h6.below⟩

set_option maxRecDepth 100000 in
set_option maxHeartbeats 4000000 in
theorem field_text {w : World} (h : KSt w w) (f : Fd) (hf : Fit f.v) (hs : f.v.s.size ≤ 33554432) (hc : canF f 0 = true) (hk : f.v.k = 4) (hfl : (fb f).length ≤ 16777215) : Calls Tryd.prog 8 #[.agg (ffC f)] w (Yes w) := by
  have bx := BoxF.new w f 41
  have h0 := h.new (.cells (ffC f) 41)
  obtain ⟨g1, g2⟩ := one_good hf hs
  have ce := fun {W : World} (q : KSt w W) => e_encode f g1 g2 q
  have his := one_is hc hf
  have cv := fun {W : World} (q : KSt w W) => kval_any q f.v hf (by omega)
  rw [(can_parts hc).2.2] at cv
  obtain ⟨t0, t1, k0, k1⟩ := can_key hc (Int.le_refl 0)
  have t0 : 1 ≤ f.t := by have := (can_parts hc).1; omega
  obtain ⟨u, hd, hu, hhd, hfb, hul, hhl⟩ := fb_parts f
  have hkr := key_range hc (Int.le_refl 0)
  obtain ⟨K, hK⟩ : ∃ K, (keyF f).toNat = K := ⟨_, rfl⟩
  have hK2 : 8 * f.t + f.v.k = (K : Int) := by have : keyF f = 8 * f.t + f.v.k := rfl; omega
  have hKb : K ≤ 18446744073709551615 := by omega
  rw [hK] at hu
  have cpk := fun (W : World) => cp_as K u hu (8 * f.t + f.v.k) hK2 hKb W
  have hm : (enc [f]).length ≤ 16777215 := by rw [enc_one]; exact hfl
  obtain ⟨z1, _, _, z4⟩ := cer_ok his hm
  obtain ⟨p, hp⟩ : ∃ p, pay f.v = p := ⟨_, rfl⟩
  have hpe : p = f.v.s.data.toList := by rw [← hp]; unfold pay; rw [hk]; rfl
  rw [hp] at hhd hfb hhl
  have cph := fun {W : World} {A : Option Addr} {c : Nat} (hA : Byt W W.heap.size A u) => cp_on u p hd hhd (by omega) (by omega) (W := W) (A := A) (c := c) hA
  simp only [z1, z4, enc_one, hfb] at ce
  rw [enc_one, hfb] at hm
  rw [hfb] at hfl hhl hul
  rw [List.length_append] at hm hfl
  obtain ⟨r, hr⟩ : ∃ r, r = hd ++ p := ⟨_, rfl⟩
  rw [← hr] at ce
  have heq : ((str r).toList == (str hd ++ str p).toList) = true := by rw [str_app, hr]; simp
  have hsz : ¬ 9223372036854775807 < (str hd).size + (str p).size := by rw [str_size, str_size]; omega
  clear z1 z4 g1 g2 his hc hu hhd hfb hkr hK hK2 hKb hp hr hf hul hhl
  obtain ⟨t, v⟩ := f
  obtain ⟨k, n, s⟩ := v
  have HBX := Lib.hid bx
  clear bx
  unfold ffC vvC at *
  dsimp only at *
  subst hk
  have HPE := Lib.hid hpe
  clear hpe
  go_enter Tryd.func8, Tryd.ntmps8
  go_wp2_with (first
    | (go_at_call 11; refine (lives_any h0).mono ?_; rintro e w1 ⟨rfl, hb1⟩; have h1 := h0.then_ hb1; have hbx1 := Lib.hid (HBX.out.then_ hb1); obtain ⟨b0, b1, b2, b3⟩ := hbx1.out)
    | (go_at_call 23; refine (cv h1).mono ?_; rintro e w2 ⟨rfl, hb2⟩; have h2 := h1.then_ hb2; have hbx2 := Lib.hid (hbx1.out.then_ hb2); obtain ⟨b0, b1, b2, b3⟩ := hbx2.out)
    | (go_at_call 16; refine (ce h2).mono ?_; rintro e w3 ⟨A3, c3, rfl, h3, hr3, hb3⟩; have hbx3 := Lib.hid (hbx2.out.then_ hb3); obtain ⟨b0, b1, b2, b3⟩ := hbx3.out)
    | (go_at_call 24; refine (uint_any h3.k).mono ?_; rintro e w' ⟨rfl, rfl⟩)
    | (go_at_call 26; refine (int_any h3.k).mono ?_; rintro e w' ⟨rfl, rfl⟩)
)
  refine (bool_any h3.k).mono ?_
  rintro e w' ⟨rfl, rfl⟩
  obtain ⟨Ap, cp, wp, hrp, hbp, hBp⟩ := bytes_of_str _ s p HPE.out
  have HRP := Lib.hid hrp
  have hr4 := hr3.then_ hBp
  have h4 := h3.then_ hBp
  have hbx4 := Lib.hid (hbx3.out.then_ hBp)
  clear hrp
  go_wp2_with ((with_reducible refine wpList_convert_run (o := ⟨some 44, _, _, _, _, _⟩) rfl 9 28 (.tmp 43) rfl ?hx HRP.out ?_); (case hx => rfl); obtain ⟨b0, b1, b2, b3⟩ := hbx4.out)
  have hp4 := hbp
  refine (cpk _).mono ?_
  rintro e w5 ⟨g5, cap5, rfl, ho5, hb5⟩
  have h5 := h4.then_ hb5
  have hr5 := hr4.then_ hb5
  have hp5 := hp4.then_ hb5
  have hu5 := new_reads ho5
  go_wp2_with fail
  refine (cph hu5).mono ?_
  rintro e w6 ⟨g6, cap6, rfl, ho6, hb6⟩
  have h6 := h5.then_ hb6
  have hh6 := new_reads ho6
  have hr6 := hr5.then_ hb6
  have hp6 := hp5.then_ hb6
  have y1 := run_str (P := Tryd.prog) hr6 28 5 9 Tryd.underlying28 Tryd.underlying5 Tryd.underlying9 c3
  have y2 := run_str (P := Tryd.prog) hh6 28 5 9 Tryd.underlying28 Tryd.underlying5 Tryd.underlying9 cap6
  have y3 := run_str (P := Tryd.prog) hp6 28 5 9 Tryd.underlying28 Tryd.underlying5 Tryd.underlying9 cp
  go_wp2
  go_ret
  exact ⟨rfl, h6.below⟩

set_option maxRecDepth 100000 in
set_option maxHeartbeats 4000000 in
theorem field_bytes {w : World} (h : KSt w w) (f : Fd) (hf : Fit f.v) (hs : f.v.s.size ≤ 33554432) (hc : canF f 0 = true) (hk : f.v.k = 5) (hfl : (fb f).length ≤ 16777215) : Calls Tryd.prog 8 #[.agg (ffC f)] w (Yes w) := by
  have bx := BoxF.new w f 41
  have h0 := h.new (.cells (ffC f) 41)
  obtain ⟨g1, g2⟩ := one_good hf hs
  have ce := fun {W : World} (q : KSt w W) => e_encode f g1 g2 q
  have his := one_is hc hf
  have cv := fun {W : World} (q : KSt w W) => kval_any q f.v hf (by omega)
  rw [(can_parts hc).2.2] at cv
  obtain ⟨t0, t1, k0, k1⟩ := can_key hc (Int.le_refl 0)
  have t0 : 1 ≤ f.t := by have := (can_parts hc).1; omega
  obtain ⟨u, hd, hu, hhd, hfb, hul, hhl⟩ := fb_parts f
  have hkr := key_range hc (Int.le_refl 0)
  obtain ⟨K, hK⟩ : ∃ K, (keyF f).toNat = K := ⟨_, rfl⟩
  have hK2 : 8 * f.t + f.v.k = (K : Int) := by have : keyF f = 8 * f.t + f.v.k := rfl; omega
  have hKb : K ≤ 18446744073709551615 := by omega
  rw [hK] at hu
  have cpk := fun (W : World) => cp_as K u hu (8 * f.t + f.v.k) hK2 hKb W
  have hm : (enc [f]).length ≤ 16777215 := by rw [enc_one]; exact hfl
  obtain ⟨z1, _, _, z4⟩ := cer_ok his hm
  obtain ⟨p, hp⟩ : ∃ p, pay f.v = p := ⟨_, rfl⟩
  have hpe : p = f.v.s.data.toList := by rw [← hp]; unfold pay; rw [hk]; rfl
  rw [hp] at hhd hfb hhl
  have cph := fun {W : World} {A : Option Addr} {c : Nat} (hA : Byt W W.heap.size A u) => cp_on u p hd hhd (by omega) (by omega) (W := W) (A := A) (c := c) hA
  simp only [z1, z4, enc_one, hfb] at ce
  rw [enc_one, hfb] at hm
  rw [hfb] at hfl hhl hul
  rw [List.length_append] at hm hfl
  obtain ⟨r, hr⟩ : ∃ r, r = hd ++ p := ⟨_, rfl⟩
  rw [← hr] at ce
  have heq : ((str r).toList == (str hd ++ str p).toList) = true := by rw [str_app, hr]; simp
  have hsz : ¬ 9223372036854775807 < (str hd).size + (str p).size := by rw [str_size, str_size]; omega
  clear z1 z4 g1 g2 his hc hu hhd hfb hkr hK hK2 hKb hp hr hf hul hhl
  obtain ⟨t, v⟩ := f
  obtain ⟨k, n, s⟩ := v
  have HBX := Lib.hid bx
  clear bx
  unfold ffC vvC at *
  dsimp only at *
  subst hk
  have HPE := Lib.hid hpe
  clear hpe
  go_enter Tryd.func8, Tryd.ntmps8
  go_wp2_with (first
    | (go_at_call 11; refine (lives_any h0).mono ?_; rintro e w1 ⟨rfl, hb1⟩; have h1 := h0.then_ hb1; have hbx1 := Lib.hid (HBX.out.then_ hb1); obtain ⟨b0, b1, b2, b3⟩ := hbx1.out)
    | (go_at_call 23; refine (cv h1).mono ?_; rintro e w2 ⟨rfl, hb2⟩; have h2 := h1.then_ hb2; have hbx2 := Lib.hid (hbx1.out.then_ hb2); obtain ⟨b0, b1, b2, b3⟩ := hbx2.out)
    | (go_at_call 16; refine (ce h2).mono ?_; rintro e w3 ⟨A3, c3, rfl, h3, hr3, hb3⟩; have hbx3 := Lib.hid (hbx2.out.then_ hb3); obtain ⟨b0, b1, b2, b3⟩ := hbx3.out)
    | (go_at_call 24; refine (uint_any h3.k).mono ?_; rintro e w' ⟨rfl, rfl⟩)
    | (go_at_call 26; refine (int_any h3.k).mono ?_; rintro e w' ⟨rfl, rfl⟩)
)
  refine (bool_any h3.k).mono ?_
  rintro e w' ⟨rfl, rfl⟩
  obtain ⟨Ap, cp, wp, hrp, hbp, hBp⟩ := bytes_of_str _ s p HPE.out
  have HRP := Lib.hid hrp
  have hr4 := hr3.then_ hBp
  have h4 := h3.then_ hBp
  have hbx4 := Lib.hid (hbx3.out.then_ hBp)
  clear hrp
  go_wp2_with ((with_reducible refine wpList_convert_run (o := ⟨some 44, _, _, _, _, _⟩) rfl 9 28 (.tmp 43) rfl ?hx HRP.out ?_); (case hx => rfl); obtain ⟨b0, b1, b2, b3⟩ := hbx4.out)
  have hp4 := hbp
  refine (cpk _).mono ?_
  rintro e w5 ⟨g5, cap5, rfl, ho5, hb5⟩
  have h5 := h4.then_ hb5
  have hr5 := hr4.then_ hb5
  have hp5 := hp4.then_ hb5
  have hu5 := new_reads ho5
  go_wp2_with fail
  refine (cph hu5).mono ?_
  rintro e w6 ⟨g6, cap6, rfl, ho6, hb6⟩
  have h6 := h5.then_ hb6
  have hh6 := new_reads ho6
  have hr6 := hr5.then_ hb6
  have hp6 := hp5.then_ hb6
  have y1 := run_str (P := Tryd.prog) hr6 28 5 9 Tryd.underlying28 Tryd.underlying5 Tryd.underlying9 c3
  have y2 := run_str (P := Tryd.prog) hh6 28 5 9 Tryd.underlying28 Tryd.underlying5 Tryd.underlying9 cap6
  have y3 := run_str (P := Tryd.prog) hp6 28 5 9 Tryd.underlying28 Tryd.underlying5 Tryd.underlying9 cp
  go_wp2
  go_ret
  exact ⟨rfl, h6.below⟩

set_option maxRecDepth 100000 in
set_option maxHeartbeats 4000000 in
theorem field_textlong {w : World} (h : KSt w w) (f : Fd) (hf : Fit f.v) (hs : f.v.s.size ≤ 33554432) (hc : canF f 0 = true) (hk : f.v.k = 4) (hfl : 16777215 < (fb f).length) : Calls Tryd.prog 8 #[.agg (ffC f)] w (Yes w) := by
  have bx := BoxF.new w f 41
  have h0 := h.new (.cells (ffC f) 41)
  obtain ⟨g1, g2⟩ := one_good hf hs
  have ce := fun {W : World} (q : KSt w W) => e_encode f g1 g2 q
  have his := one_is hc hf
  have cv := fun {W : World} (q : KSt w W) => kval_any q f.v hf (by omega)
  rw [(can_parts hc).2.2] at cv
  obtain ⟨t0, t1, k0, k1⟩ := can_key hc (Int.le_refl 0)
  have t0 : 1 ≤ f.t := by have := (can_parts hc).1; omega
  obtain ⟨u, hd, hu, hhd, hfb, hul, hhl⟩ := fb_parts f
  have hkr := key_range hc (Int.le_refl 0)
  obtain ⟨K, hK⟩ : ∃ K, (keyF f).toNat = K := ⟨_, rfl⟩
  have hK2 : 8 * f.t + f.v.k = (K : Int) := by have : keyF f = 8 * f.t + f.v.k := rfl; omega
  have hKb : K ≤ 18446744073709551615 := by omega
  rw [hK] at hu
  have cpk := fun (W : World) => cp_as K u hu (8 * f.t + f.v.k) hK2 hKb W
  have hm : 16777215 < (enc [f]).length := by rw [enc_one]; exact hfl
  obtain ⟨z1, _, _, z4⟩ := cer_long his hm
  clear hm
  have hub := fb_le hc (Int.le_refl 0) hf (by omega)
  obtain ⟨p, hp⟩ : ∃ p, pay f.v = p := ⟨_, rfl⟩
  have hpe : p = f.v.s.data.toList := by rw [← hp]; unfold pay; rw [hk]; rfl
  rw [hfb] at hfl
  rw [List.length_append, hp] at hfl
  rw [hp] at hhd hfb hhl
  have cph := fun {W : World} {A : Option Addr} {c : Nat} (hA : Byt W W.heap.size A u) => cp_on u p hd hhd (by omega) (by omega) (W := W) (A := A) (c := c) hA
  simp only [z1, z4] at ce
  rw [hfb] at hhl hul hub
  have hpb : p.length ≤ 1000000000 := by omega
  have hdb : hd.length ≤ 1000000000 := by omega
  have hlz : (16777215 : Int) < (hd.length : Int) + (p.length : Int) := by omega
  have HLZ := Lib.hid hlz
  have HUB : Hid (hd.length + p.length ≤ 1000000000) := by unfold Hid; omega
  clear z1 z4 g1 g2 his hc hu hhd hfb hkr hK hK2 hKb hp hf hul hhl hfl hub hlz
  obtain ⟨t, v⟩ := f
  obtain ⟨k, n, s⟩ := v
  have HBX := Lib.hid bx
  clear bx
  unfold ffC vvC at *
  dsimp only at *
  subst hk
  have HPE := Lib.hid hpe
  clear hpe
  go_enter Tryd.func8, Tryd.ntmps8
  go_wp2_with (first
    | (go_at_call 11; refine (lives_any h0).mono ?_; rintro e w1 ⟨rfl, hb1⟩; have h1 := h0.then_ hb1; have hbx1 := Lib.hid (HBX.out.then_ hb1); obtain ⟨b0, b1, b2, b3⟩ := hbx1.out)
    | (go_at_call 23; refine (cv h1).mono ?_; rintro e w2 ⟨rfl, hb2⟩; have h2 := h1.then_ hb2; have hbx2 := Lib.hid (hbx1.out.then_ hb2); obtain ⟨b0, b1, b2, b3⟩ := hbx2.out)
    | (go_at_call 16; refine (ce h2).mono ?_; rintro e w3 ⟨A3, c3, rfl, h3, hr3, hb3⟩; have hbx3 := Lib.hid (hbx2.out.then_ hb3); obtain ⟨b0, b1, b2, b3⟩ := hbx3.out)
    | (go_at_call 24; refine (uint_any h3.k).mono ?_; rintro e w' ⟨rfl, rfl⟩)
    | (go_at_call 26; refine (int_any h3.k).mono ?_; rintro e w' ⟨rfl, rfl⟩)
)
  refine (bool_any h3.k).mono ?_
  rintro e w' ⟨rfl, rfl⟩
  obtain ⟨Ap, cp, wp, hrp, hbp, hBp⟩ := bytes_of_str _ s p HPE.out
  have HRP := Lib.hid hrp
  have hr4 := hr3.then_ hBp
  have h4 := h3.then_ hBp
  have hbx4 := Lib.hid (hbx3.out.then_ hBp)
  clear hrp
  go_wp2_with ((with_reducible refine wpList_convert_run (o := ⟨some 44, _, _, _, _, _⟩) rfl 9 28 (.tmp 43) rfl ?hx HRP.out ?_); (case hx => rfl); obtain ⟨b0, b1, b2, b3⟩ := hbx4.out)
  have hp4 := hbp
  refine (cpk _).mono ?_
  rintro e w5 ⟨g5, cap5, rfl, ho5, hb5⟩
  have h5 := h4.then_ hb5
  have hr5 := hr4.then_ hb5
  have hp5 := hp4.then_ hb5
  have hu5 := new_reads ho5
  go_wp2_with fail
  refine (cph hu5).mono ?_
  rintro e w6 ⟨g6, cap6, rfl, ho6, hb6⟩
  have h6 := h5.then_ hb6
  obtain ⟨H, hH⟩ : ∃ H : Int, (hd.length : Int) = H := ⟨_, rfl⟩
  obtain ⟨J, hJ⟩ : ∃ J : Int, (p.length : Int) = J := ⟨_, rfl⟩
  have hH0 : 0 ≤ H := by omega
  have hJ0 : 0 ≤ J := by omega
  have hH1 : H ≤ 1000000000 := by have := HUB.out; omega
  have hJ1 : J ≤ 1000000000 := by have := HUB.out; omega
  have hlz : 16777215 < H + J := by have := HLZ.out; omega
  go_wp2
  go_ret
  exact ⟨rfl, h6.below⟩

set_option maxRecDepth 100000 in
set_option maxHeartbeats 4000000 in
theorem field_byteslong {w : World} (h : KSt w w) (f : Fd) (hf : Fit f.v) (hs : f.v.s.size ≤ 33554432) (hc : canF f 0 = true) (hk : f.v.k = 5) (hfl : 16777215 < (fb f).length) : Calls Tryd.prog 8 #[.agg (ffC f)] w (Yes w) := by
  have bx := BoxF.new w f 41
  have h0 := h.new (.cells (ffC f) 41)
  obtain ⟨g1, g2⟩ := one_good hf hs
  have ce := fun {W : World} (q : KSt w W) => e_encode f g1 g2 q
  have his := one_is hc hf
  have cv := fun {W : World} (q : KSt w W) => kval_any q f.v hf (by omega)
  rw [(can_parts hc).2.2] at cv
  obtain ⟨t0, t1, k0, k1⟩ := can_key hc (Int.le_refl 0)
  have t0 : 1 ≤ f.t := by have := (can_parts hc).1; omega
  obtain ⟨u, hd, hu, hhd, hfb, hul, hhl⟩ := fb_parts f
  have hkr := key_range hc (Int.le_refl 0)
  obtain ⟨K, hK⟩ : ∃ K, (keyF f).toNat = K := ⟨_, rfl⟩
  have hK2 : 8 * f.t + f.v.k = (K : Int) := by have : keyF f = 8 * f.t + f.v.k := rfl; omega
  have hKb : K ≤ 18446744073709551615 := by omega
  rw [hK] at hu
  have cpk := fun (W : World) => cp_as K u hu (8 * f.t + f.v.k) hK2 hKb W
  have hm : 16777215 < (enc [f]).length := by rw [enc_one]; exact hfl
  obtain ⟨z1, _, _, z4⟩ := cer_long his hm
  clear hm
  have hub := fb_le hc (Int.le_refl 0) hf (by omega)
  obtain ⟨p, hp⟩ : ∃ p, pay f.v = p := ⟨_, rfl⟩
  have hpe : p = f.v.s.data.toList := by rw [← hp]; unfold pay; rw [hk]; rfl
  rw [hfb] at hfl
  rw [List.length_append, hp] at hfl
  rw [hp] at hhd hfb hhl
  have cph := fun {W : World} {A : Option Addr} {c : Nat} (hA : Byt W W.heap.size A u) => cp_on u p hd hhd (by omega) (by omega) (W := W) (A := A) (c := c) hA
  simp only [z1, z4] at ce
  rw [hfb] at hhl hul hub
  have hpb : p.length ≤ 1000000000 := by omega
  have hdb : hd.length ≤ 1000000000 := by omega
  have hlz : (16777215 : Int) < (hd.length : Int) + (p.length : Int) := by omega
  have HLZ := Lib.hid hlz
  have HUB : Hid (hd.length + p.length ≤ 1000000000) := by unfold Hid; omega
  clear z1 z4 g1 g2 his hc hu hhd hfb hkr hK hK2 hKb hp hf hul hhl hfl hub hlz
  obtain ⟨t, v⟩ := f
  obtain ⟨k, n, s⟩ := v
  have HBX := Lib.hid bx
  clear bx
  unfold ffC vvC at *
  dsimp only at *
  subst hk
  have HPE := Lib.hid hpe
  clear hpe
  go_enter Tryd.func8, Tryd.ntmps8
  go_wp2_with (first
    | (go_at_call 11; refine (lives_any h0).mono ?_; rintro e w1 ⟨rfl, hb1⟩; have h1 := h0.then_ hb1; have hbx1 := Lib.hid (HBX.out.then_ hb1); obtain ⟨b0, b1, b2, b3⟩ := hbx1.out)
    | (go_at_call 23; refine (cv h1).mono ?_; rintro e w2 ⟨rfl, hb2⟩; have h2 := h1.then_ hb2; have hbx2 := Lib.hid (hbx1.out.then_ hb2); obtain ⟨b0, b1, b2, b3⟩ := hbx2.out)
    | (go_at_call 16; refine (ce h2).mono ?_; rintro e w3 ⟨A3, c3, rfl, h3, hr3, hb3⟩; have hbx3 := Lib.hid (hbx2.out.then_ hb3); obtain ⟨b0, b1, b2, b3⟩ := hbx3.out)
    | (go_at_call 24; refine (uint_any h3.k).mono ?_; rintro e w' ⟨rfl, rfl⟩)
    | (go_at_call 26; refine (int_any h3.k).mono ?_; rintro e w' ⟨rfl, rfl⟩)
)
  refine (bool_any h3.k).mono ?_
  rintro e w' ⟨rfl, rfl⟩
  obtain ⟨Ap, cp, wp, hrp, hbp, hBp⟩ := bytes_of_str _ s p HPE.out
  have HRP := Lib.hid hrp
  have hr4 := hr3.then_ hBp
  have h4 := h3.then_ hBp
  have hbx4 := Lib.hid (hbx3.out.then_ hBp)
  clear hrp
  go_wp2_with ((with_reducible refine wpList_convert_run (o := ⟨some 44, _, _, _, _, _⟩) rfl 9 28 (.tmp 43) rfl ?hx HRP.out ?_); (case hx => rfl); obtain ⟨b0, b1, b2, b3⟩ := hbx4.out)
  have hp4 := hbp
  refine (cpk _).mono ?_
  rintro e w5 ⟨g5, cap5, rfl, ho5, hb5⟩
  have h5 := h4.then_ hb5
  have hr5 := hr4.then_ hb5
  have hp5 := hp4.then_ hb5
  have hu5 := new_reads ho5
  go_wp2_with fail
  refine (cph hu5).mono ?_
  rintro e w6 ⟨g6, cap6, rfl, ho6, hb6⟩
  have h6 := h5.then_ hb6
  obtain ⟨H, hH⟩ : ∃ H : Int, (hd.length : Int) = H := ⟨_, rfl⟩
  obtain ⟨J, hJ⟩ : ∃ J : Int, (p.length : Int) = J := ⟨_, rfl⟩
  have hH0 : 0 ≤ H := by omega
  have hJ0 : 0 ≤ J := by omega
  have hH1 : H ≤ 1000000000 := by have := HUB.out; omega
  have hJ1 : J ≤ 1000000000 := by have := HUB.out; omega
  have hlz : 16777215 < H + J := by have := HLZ.out; omega
  go_wp2
  go_ret
  exact ⟨rfl, h6.below⟩

theorem fieldlaw_any {w : World} (h : KSt w w) (f : Fd) (hf : Fit f.v) (hs : f.v.s.size ≤ 140737488355328) : Calls Tryd.prog 8 #[.agg (ffC f)] w (Yes w) := by
  by_cases hbig : 33554432 < f.v.s.size
  · exact field_big h f hbig hs
  have hs' : f.v.s.size ≤ 33554432 := by omega
  cases hc : canF f 0 with
  | false => exact field_bad h f hf hs' hc
  | true =>
    have hok := (can_parts hc).2.2
    have hk := ok_kind hok
    have h5 : f.v.k = 1 ∨ f.v.k = 2 ∨ f.v.k = 3 ∨ f.v.k = 4 ∨ f.v.k = 5 := by omega
    rcases h5 with g | g | g | g | g
    · exact field_uint h f hf hs' hc g
    · exact field_int h f hf hs' hc g
    · have h1 := ok_bool hok g
      have h0 := hf.1
      by_cases hn : f.v.n = 0
      · exact field_zero h f hf hs' hc g hn
      · exact field_one h f hf hs' hc g (by omega)
    · by_cases hl : (fb f).length ≤ 16777215
      · exact field_text h f hf hs' hc g hl
      · exact field_textlong h f hf hs' hc g (by omega)
    · by_cases hl : (fb f).length ≤ 16777215
      · exact field_bytes h f hf hs' hc g hl
      · exact field_byteslong h f hf hs' hc g (by omega)
end Go.Proofs.YthekbefbhjllnaaDoor
