/- The walk of right: one call on both books. -/
import Derived.Test.YtgdeeojamnbakaaRefDo
namespace Go.Proofs.Ytgdeeojamnbakaa
open Go.RowKit

/-- The program's book and the reference's, or none of both; F: all blocks that they rest on. -/
def Side (w : World) (bv rv : Value) (F : List Nat) : Prop :=
  (bv = .pointer none ∧ rv = .pointer none ∧ F = []) ∨
  ∃ b r S T es cl, bv = .pointer (some ⟨b, 0, none⟩) ∧ rv = .pointer (some ⟨r, 0, none⟩) ∧ Book w b S es cl ∧ RBook w r T es cl ∧ (∀ k ∈ S, k ∉ T) ∧ F = S ++ T

theorem Side.mem {w : World} {bv rv : Value} {F : List Nat} (h : Side w bv rv F) : ∀ k ∈ F, k < w.heap.size := by
  rcases h with ⟨_, _, rfl⟩ | ⟨b, r, S, T, es, cl, _, _, hb, hr, _, rfl⟩
  · intro k hk; simp at hk
  · intro k hk
    rcases List.mem_append.1 hk with h | h
    · exact hb.mem k h
    · exact hr.mem k h

theorem Side.kept {w w' : World} {bv rv : Value} {F : List Nat} (h : Side w bv rv F) (hk : ∀ k ∈ F, w'.heap[k]? = w.heap[k]?) : Side w' bv rv F := by
  rcases h with h | ⟨b, r, S, T, es, cl, h1, h2, hb, hr, hd, rfl⟩
  · exact .inl h
  · exact .inr ⟨b, r, S, T, es, cl, h1, h2, hb.kept (fun k h => hk k (List.mem_append_left _ h)), hr.kept (fun k h => hk k (List.mem_append_right _ h)), hd, rfl⟩

theorem Side.below {w w' : World} {bv rv : Value} {F : List Nat} (h : Side w bv rv F) (hB : Below w.heap.size w w') : Side w' bv rv F :=
  h.kept fun k hk => hB.block k (h.mem k hk)

/-- What a call on both leaves. -/
def Rights (bv rv : Value) (F : List Nat) (w : World) (e : Ending) (w' : World) : Prop :=
  e = .returned (.bool true) ∧ ∃ F', Side w' bv rv F' ∧ Only F w w' ∧ ∀ k ∈ F', k ∈ F ∨ w.heap.size ≤ k

theorem Rights.same {bv rv : Value} {F : List Nat} {w w' : World} (h : Side w bv rv F) (hB : Below w.heap.size w w') : Rights bv rv F w (.returned (.bool true)) w' :=
  ⟨rfl, F, h.below hB, Only.of_below _ hB, fun _ hk => .inl hk⟩

/-- One is written to, then the other one. -/
theorem Rights.both {w wa w1 w2 : World} {b r : Nat} {S S' T T' : List Nat} {es es' : List Ent} {cl cl' : Nat → Bool} (hT : RBook wa r T es cl) (hd : ∀ k ∈ S, k ∉ T) (hB : Below w.heap.size w wa)
    (hb1 : Book w1 b S' es' cl') (ho1 : Only S wa w1) (hm1 : ∀ k ∈ S', k ∈ S ∨ wa.heap.size ≤ k)
    (hr2 : RBook w2 r T' es' cl') (ho2 : Only T w1 w2) (hm2 : ∀ k ∈ T', k ∈ T ∨ w1.heap.size ≤ k) :
    Rights (.pointer (some ⟨b, 0, none⟩)) (.pointer (some ⟨r, 0, none⟩)) (S ++ T) w (.returned (.bool true)) w2 := by
  have hST : ∀ k ∈ S', k ∉ T := fun k hk hk2 => by
    rcases hm1 k hk with h | h
    · exact hd k h hk2
    · have := hT.mem k hk2; omega
  have z1 := hB.size
  have z2 := ho1.size
  refine ⟨rfl, S' ++ T', .inr ⟨b, r, S', T', es', cl', rfl, rfl, hb1.only ho2 hST, hr2, fun k hk hk2 => ?_, rfl⟩, ?_, fun k hk => ?_⟩
  · rcases hm2 k hk2 with h | h
    · exact hST k hk h
    · have := hb1.mem k hk; omega
  · have o1 : Only (S ++ T) w w1 := Below.only hB (ho1.weaken (fun k _ h => List.mem_append_left _ h))
    exact o1.trans ho2 (fun _ _ m => m) (fun _ _ m => List.mem_append_right _ m)
  · rcases List.mem_append.1 hk with h | h
    · rcases hm1 k h with h | h
      · exact .inl (List.mem_append_left _ h)
      · right; omega
    · rcases hm2 k h with h | h
      · exact .inl (List.mem_append_right _ h)
      · right; omega

theorem same_enter {es e1 e2 : List Ent} {cl : Nat → Bool} {f : Int} {nm : ByteArray} {sz n1 n2 : Int}
    (h : (why es cl f nm sz = 0 ∧ n1 = cnt f es + 1 ∧ e1 = es ++ [⟨f, cnt f es + 1, nm, sz⟩]) ∨ (why es cl f nm sz ≠ 0 ∧ n1 = 0 ∧ e1 = es))
    (g : (why es cl f nm sz = 0 ∧ n2 = cnt f es + 1 ∧ e2 = es ++ [⟨f, cnt f es + 1, nm, sz⟩]) ∨ (why es cl f nm sz ≠ 0 ∧ n2 = 0 ∧ e2 = es)) : n1 = n2 ∧ e1 = e2 := by
  rcases h with ⟨h0, rfl, rfl⟩ | ⟨h0, rfl, rfl⟩
  · rcases g with ⟨_, rfl, rfl⟩ | ⟨g0, _⟩
    · exact ⟨rfl, rfl⟩
    · exact absurd h0 g0
  · rcases g with ⟨g0, _⟩ | ⟨_, rfl, rfl⟩
    · exact absurd g0 h0
    · exact ⟨rfl, rfl⟩

theorem ropen_quiet {w : World} {b : Nat} {S : List Nat} {es : List Ent} {cl : Nat → Bool} {n : Nat} (h : RBook w b S es cl) (f : Int) {x : Bool} (hx : openF cl f = x) :
    Calls Try.prog 17 #[.pointer (some ⟨b, 0, none⟩), .int .i64 f] (w.drewN n) fun e w' => e = .returned (.bool x) ∧ ∃ m, w' = w.drewN m := by
  refine (ropen_any (h.below (Below.drewN' w n)) f).mono ?_
  rintro e w' ⟨rfl, rfl⟩
  exact ⟨by rw [hx], n, rfl⟩

theorem keep_cell {w w' : World} {b o : Nat} {v : Value} (h : Below w.heap.size w w') (hb : b < w.heap.size) (hc : w.cell? ⟨b, o, none⟩ = some v) : w'.cell? ⟨b, o, none⟩ = some v :=
  (h.cell (p := ⟨b, o, none⟩) hb).trans hc

theorem open_nil_quiet {w : World} {n : Nat} (f : Int) :
    Calls Try.prog 16 #[.pointer none, .int .i64 f] (w.drewN n) fun e w' => e = .returned (.bool false) ∧ ∃ m, w' = w.drewN m := by
  refine (open_nil f _).mono ?_
  rintro e w' ⟨rfl, rfl⟩
  exact ⟨rfl, n, rfl⟩
theorem ropen_nil_quiet {w : World} {n : Nat} (f : Int) :
    Calls Try.prog 17 #[.pointer none, .int .i64 f] (w.drewN n) fun e w' => e = .returned (.bool false) ∧ ∃ m, w' = w.drewN m := by
  refine (ropen_nil f _).mono ?_
  rintro e w' ⟨rfl, rfl⟩
  exact ⟨rfl, n, rfl⟩

theorem rat_gives {w : World} {r : Value} {es : List Ent} (hall : AllIs r es w) (f m : Int) :
    Calls Try.prog 27 #[r, .int .i64 f, .int .i64 m] w (AtGives (findAt f m es) w) := by
  refine (rat_any hall f m).mono ?_
  rintro e w' ⟨rfl, hB⟩
  exact ⟨_, _, _, _, _, ⟨rfl, rfl⟩, rfl, hB⟩
theorem at_gives_nil (f m : Int) (w : World) : Calls Try.prog 23 #[.pointer none, .int .i64 f, .int .i64 m] w (AtGives none w) := by
  refine (at_nil f m w).mono ?_
  rintro e w' ⟨rfl, hB⟩
  exact ⟨_, _, _, _, _, ⟨rfl, rfl⟩, rfl, hB⟩

set_option maxRecDepth 100000 in
set_option maxHeartbeats 4000000 in
theorem right_1 {w : World} {b r : Nat} {S T : List Nat} {es : List Ent} {cl : Nat → Bool} (hb : Book w b S es cl) (hr : RBook w r T es cl) (hd : ∀ k ∈ S, k ∉ T) (on fm : Int) (nx : ByteArray) (sx : Int) (hnx : nx.size ≤ maxLen)  :
    Calls Try.prog 12 #[.pointer (some ⟨b, 0, none⟩), .pointer (some ⟨r, 0, none⟩), .agg #[.int .i64 1, .int .i64 on, .int .i64 fm, .string nx, .int .i64 sx]] w (Rights (.pointer (some ⟨b, 0, none⟩)) (.pointer (some ⟨r, 0, none⟩)) (S ++ T) w) := by
  have HS := Lib.hid (show Side w (.pointer (some ⟨b, 0, none⟩)) (.pointer (some ⟨r, 0, none⟩)) (S ++ T) from .inr ⟨b, r, S, T, es, cl, rfl, rfl, hb, hr, hd, rfl⟩)
  obtain ⟨wa, hwa⟩ : ∃ wa, wa = w.alloc (.cells #[.int .i64 1, .int .i64 on, .int .i64 fm, .string nx, .int .i64 sx] 32) := ⟨_, rfl⟩
  obtain ⟨bo, hbo⟩ : ∃ bo, bo = w.heap.size := ⟨_, rfl⟩
  have hBa : Below w.heap.size w wa := by rw [hwa]; exact below_alloc _ _
  have hblk : wa.heap[bo]? = some (.cells #[.int .i64 1, .int .i64 on, .int .i64 fm, .string nx, .int .i64 sx] 32 (0, 0)) := by rw [hwa, hbo]; exact heap_alloc_new w _
  have HBLK := Lib.hid hblk
  have HB := Lib.hid (hb.below hBa)
  have HR := Lib.hid (hr.below hBa)
  have HD := Lib.hid hd
  have HBS := Lib.hid (show ∀ k, k ∈ S ∨ k ∈ T → k < w.heap.size from fun k h => h.elim (hb.mem k) (hr.mem k))
  clear hb hr hd
  have HW := Lib.hid (And.intro hwa hbo)
  clear hwa hbo hblk
  go_enter Try.func12, Try.ntmps12
  go_wp2_with fail
  rw [← HW.out.1, ← HW.out.2]
  refine (enter_any HB.out _ _ _ hnx).mono ?_
  rintro e w1 ⟨S', es', n, rfl, hk1, ho1, hm1, hd1⟩
  have c5 := lt_of_block HBLK.out
  have hbS := Lib.hid (show bo ∉ S ∧ bo ∉ T from by have h1 := HB.out; have h2 := HW.out.2; exact ⟨fun h => by have := HBS.out bo (.inl h); omega, fun h => by have := HBS.out bo (.inr h); omega⟩)
  have HBLK1 := Lib.hid ((ho1.block bo c5 hbS.out.1).trans HBLK.out)
  have HR1 := Lib.hid (HR.out.only ho1 (fun k h1 h2 => HD.out k h2 h1))
  have HX := Lib.hid (And.intro hk1 (And.intro ho1 (And.intro hm1 hd1)))
  clear hk1 ho1 hm1 hd1 c5
  have HBLK := HBLK1
  clear HBLK1
  have c2 : w1.cell? ⟨bo, 2, none⟩ = some (.int .i64 fm) := cell_in HBLK.out 2 rfl
  have c3 : w1.cell? ⟨bo, 3, none⟩ = some (.string nx) := cell_in HBLK.out 3 rfl
  have c4 : w1.cell? ⟨bo, 4, none⟩ = some (.int .i64 sx) := cell_in HBLK.out 4 rfl
  have c5 : bo < w1.heap.size := lt_of_block HBLK.out
  go_wp2_with fail
  clear c2 c3 c4 c5
  refine (renter_any HR1.out _ _ _ hnx).mono ?_
  rintro e w2 ⟨T', es2, n2, rfl, hk2, ho2, hm2, hd2⟩
  obtain ⟨hk1, ho1, hm1, hd1⟩ := HX.out
  obtain ⟨rfl, rfl⟩ := same_enter hd1 hd2
  have HY := Lib.hid (Rights.both (b := b) HR.out HD.out hBa hk1 ho1 hm1 hk2 ho2 hm2)
  clear hk1 ho1 hm1 hd1 hk2 ho2 hm2 hd2 HX
  go_wp2_with fail
  go_ret
  exact HY.out

set_option maxRecDepth 100000 in
set_option maxHeartbeats 4000000 in
theorem right_2 {w : World} {b r : Nat} {S T : List Nat} {es : List Ent} {cl : Nat → Bool} (hb : Book w b S es cl) (hr : RBook w r T es cl) (hd : ∀ k ∈ S, k ∉ T) (on fm : Int) (nx : ByteArray) (sx : Int) (_hnx : nx.size ≤ maxLen)  :
    Calls Try.prog 12 #[.pointer (some ⟨b, 0, none⟩), .pointer (some ⟨r, 0, none⟩), .agg #[.int .i64 2, .int .i64 on, .int .i64 fm, .string nx, .int .i64 sx]] w (Rights (.pointer (some ⟨b, 0, none⟩)) (.pointer (some ⟨r, 0, none⟩)) (S ++ T) w) := by
  have HS := Lib.hid (show Side w (.pointer (some ⟨b, 0, none⟩)) (.pointer (some ⟨r, 0, none⟩)) (S ++ T) from .inr ⟨b, r, S, T, es, cl, rfl, rfl, hb, hr, hd, rfl⟩)
  obtain ⟨wa, hwa⟩ : ∃ wa, wa = w.alloc (.cells #[.int .i64 2, .int .i64 on, .int .i64 fm, .string nx, .int .i64 sx] 32) := ⟨_, rfl⟩
  obtain ⟨bo, hbo⟩ : ∃ bo, bo = w.heap.size := ⟨_, rfl⟩
  have hBa : Below w.heap.size w wa := by rw [hwa]; exact below_alloc _ _
  have hblk : wa.heap[bo]? = some (.cells #[.int .i64 2, .int .i64 on, .int .i64 fm, .string nx, .int .i64 sx] 32 (0, 0)) := by rw [hwa, hbo]; exact heap_alloc_new w _
  have HBLK := Lib.hid hblk
  have HB := Lib.hid (hb.below hBa)
  have HR := Lib.hid (hr.below hBa)
  have HD := Lib.hid hd
  have HBS := Lib.hid (show ∀ k, k ∈ S ∨ k ∈ T → k < w.heap.size from fun k h => h.elim (hb.mem k) (hr.mem k))
  clear hb hr hd
  have HW := Lib.hid (And.intro hwa hbo)
  clear hwa hbo hblk
  go_enter Try.func12, Try.ntmps12
  go_wp2_with fail
  rw [← HW.out.1, ← HW.out.2]
  refine (close_any HB.out _).mono ?_
  rintro e w1 ⟨rfl, hk1, ho1⟩
  have c5 := lt_of_block HBLK.out
  have hbS := Lib.hid (show bo ∉ S from by have h2 := HW.out.2; exact fun h => by have := HBS.out bo (.inl h); omega)
  have hob := Lib.hid (ho1.weaken (fun k _ hk => by simp at hk; subst hk; exact HB.out.self) : Only S wa w1)
  have HBLK1 := Lib.hid ((hob.out.block bo c5 hbS.out).trans HBLK.out)
  have HR1 := Lib.hid (HR.out.only hob.out (fun k h1 h2 => HD.out k h2 h1))
  have HX := Lib.hid hk1
  clear hk1 ho1 c5
  have HBLK := HBLK1
  clear HBLK1
  have c2 : w1.cell? ⟨bo, 2, none⟩ = some (.int .i64 fm) := cell_in HBLK.out 2 rfl
  have c3 : w1.cell? ⟨bo, 3, none⟩ = some (.string nx) := cell_in HBLK.out 3 rfl
  have c4 : w1.cell? ⟨bo, 4, none⟩ = some (.int .i64 sx) := cell_in HBLK.out 4 rfl
  have c5 : bo < w1.heap.size := lt_of_block HBLK.out
  go_wp2_with fail
  clear c2 c3 c4 c5
  refine (rclose_any HR1.out _).mono ?_
  rintro e w2 ⟨T', rfl, hk2, ho2, hm2⟩
  have HY := Lib.hid (Rights.both (b := b) HR.out HD.out hBa HX.out hob.out (fun k h => .inl h) hk2 ho2 hm2)
  clear hk2 ho2 hm2 HX
  go_wp2_with fail
  go_ret
  exact HY.out

set_option maxRecDepth 100000 in
set_option maxHeartbeats 4000000 in
theorem right_3 {w : World} {b r : Nat} {S T : List Nat} {es : List Ent} {cl : Nat → Bool} (hb : Book w b S es cl) (hr : RBook w r T es cl) (hd : ∀ k ∈ S, k ∉ T) (on fm : Int) (nx : ByteArray) (sx : Int) (_hnx : nx.size ≤ maxLen)  :
    Calls Try.prog 12 #[.pointer (some ⟨b, 0, none⟩), .pointer (some ⟨r, 0, none⟩), .agg #[.int .i64 3, .int .i64 on, .int .i64 fm, .string nx, .int .i64 sx]] w (Rights (.pointer (some ⟨b, 0, none⟩)) (.pointer (some ⟨r, 0, none⟩)) (S ++ T) w) := by
  have HS := Lib.hid (show Side w (.pointer (some ⟨b, 0, none⟩)) (.pointer (some ⟨r, 0, none⟩)) (S ++ T) from .inr ⟨b, r, S, T, es, cl, rfl, rfl, hb, hr, hd, rfl⟩)
  obtain ⟨wa, hwa⟩ : ∃ wa, wa = w.alloc (.cells #[.int .i64 3, .int .i64 on, .int .i64 fm, .string nx, .int .i64 sx] 32) := ⟨_, rfl⟩
  obtain ⟨bo, hbo⟩ : ∃ bo, bo = w.heap.size := ⟨_, rfl⟩
  have hBa : Below w.heap.size w wa := by rw [hwa]; exact below_alloc _ _
  have hblk : wa.heap[bo]? = some (.cells #[.int .i64 3, .int .i64 on, .int .i64 fm, .string nx, .int .i64 sx] 32 (0, 0)) := by rw [hwa, hbo]; exact heap_alloc_new w _
  have HBLK := Lib.hid hblk
  have HB := Lib.hid (hb.below hBa)
  have HR := Lib.hid (hr.below hBa)
  have HD := Lib.hid hd
  have HBS := Lib.hid (show ∀ k, k ∈ S ∨ k ∈ T → k < w.heap.size from fun k h => h.elim (hb.mem k) (hr.mem k))
  clear hb hr hd
  have HW := Lib.hid (And.intro hwa hbo)
  clear hwa hbo hblk
  go_enter Try.func12, Try.ntmps12
  go_wp2_with fail
  rw [← HW.out.1, ← HW.out.2]
  have c2 : wa.cell? ⟨bo, 2, none⟩ = some (.int .i64 fm) := cell_in HBLK.out 2 rfl
  have c3 : wa.cell? ⟨bo, 3, none⟩ = some (.string nx) := cell_in HBLK.out 3 rfl
  have c4 : wa.cell? ⟨bo, 4, none⟩ = some (.int .i64 sx) := cell_in HBLK.out 4 rfl
  have c5 : bo < wa.heap.size := lt_of_block HBLK.out
  go_quiet ((first | (go_at_call 16; exact open_quiet HB.out _ rfl) | (go_at_call 17; exact ropen_quiet HR.out _ rfl)))
  go_wp2_with fail
  go_ret
  exact Rights.same HS.out (hBa.trans ((Below.drewN' wa _).mono hBa.size))

set_option maxRecDepth 100000 in
set_option maxHeartbeats 4000000 in
theorem right_4 {w : World} {b r : Nat} {S T : List Nat} {es : List Ent} {cl : Nat → Bool} (hb : Book w b S es cl) (hr : RBook w r T es cl) (hd : ∀ k ∈ S, k ∉ T) (on fm : Int) (nx : ByteArray) (sx : Int) (_hnx : nx.size ≤ maxLen)  :
    Calls Try.prog 12 #[.pointer (some ⟨b, 0, none⟩), .pointer (some ⟨r, 0, none⟩), .agg #[.int .i64 4, .int .i64 on, .int .i64 fm, .string nx, .int .i64 sx]] w (Rights (.pointer (some ⟨b, 0, none⟩)) (.pointer (some ⟨r, 0, none⟩)) (S ++ T) w) := by
  have HS := Lib.hid (show Side w (.pointer (some ⟨b, 0, none⟩)) (.pointer (some ⟨r, 0, none⟩)) (S ++ T) from .inr ⟨b, r, S, T, es, cl, rfl, rfl, hb, hr, hd, rfl⟩)
  obtain ⟨wa, hwa⟩ : ∃ wa, wa = w.alloc (.cells #[.int .i64 4, .int .i64 on, .int .i64 fm, .string nx, .int .i64 sx] 32) := ⟨_, rfl⟩
  obtain ⟨bo, hbo⟩ : ∃ bo, bo = w.heap.size := ⟨_, rfl⟩
  have hBa : Below w.heap.size w wa := by rw [hwa]; exact below_alloc _ _
  have hblk : wa.heap[bo]? = some (.cells #[.int .i64 4, .int .i64 on, .int .i64 fm, .string nx, .int .i64 sx] 32 (0, 0)) := by rw [hwa, hbo]; exact heap_alloc_new w _
  have HBLK := Lib.hid hblk
  have HB := Lib.hid (hb.below hBa)
  have HR := Lib.hid (hr.below hBa)
  have HD := Lib.hid hd
  have HBS := Lib.hid (show ∀ k, k ∈ S ∨ k ∈ T → k < w.heap.size from fun k h => h.elim (hb.mem k) (hr.mem k))
  clear hb hr hd
  have HW := Lib.hid (And.intro hwa hbo)
  clear hwa hbo hblk
  go_enter Try.func12, Try.ntmps12
  go_wp2_with fail
  rw [← HW.out.1, ← HW.out.2]
  refine (all_any HB.out).mono ?_
  rintro e w1 ⟨v1, rfl, hv1, hB1⟩
  have HV1 := Lib.hid hv1
  have HR1 := Lib.hid (HR.out.below hB1)
  clear hv1
  go_wp2_with fail
  refine (rall_any HR1.out).mono ?_
  rintro e w2 ⟨v2, rfl, hv2, hB2⟩
  have HV2 := Lib.hid hv2
  clear hv2
  go_wp2_with fail
  have HV3 := Lib.hid (rows_kept HV1.out (fun g hg => hB2.block g (HV1.out.lt _ hg).2))
  refine (same_true HV3.out HV2.out).mono ?_
  rintro e w3 ⟨rfl, hB3⟩
  have HZ := Lib.hid (hBa.trans ((Below.both hB1 (Below.both hB2 hB3)).mono hBa.size))
  clear hB1 hB2 hB3
  go_wp2_with fail
  go_ret
  exact Rights.same HS.out HZ.out

set_option maxRecDepth 100000 in
set_option maxHeartbeats 4000000 in
theorem right_5 {w : World} {b r : Nat} {S T : List Nat} {es : List Ent} {cl : Nat → Bool} (hb : Book w b S es cl) (hr : RBook w r T es cl) (hd : ∀ k ∈ S, k ∉ T) (on fm : Int) (nx : ByteArray) (sx : Int) (_hnx : nx.size ≤ maxLen)  :
    Calls Try.prog 12 #[.pointer (some ⟨b, 0, none⟩), .pointer (some ⟨r, 0, none⟩), .agg #[.int .i64 5, .int .i64 on, .int .i64 fm, .string nx, .int .i64 sx]] w (Rights (.pointer (some ⟨b, 0, none⟩)) (.pointer (some ⟨r, 0, none⟩)) (S ++ T) w) := by
  have HS := Lib.hid (show Side w (.pointer (some ⟨b, 0, none⟩)) (.pointer (some ⟨r, 0, none⟩)) (S ++ T) from .inr ⟨b, r, S, T, es, cl, rfl, rfl, hb, hr, hd, rfl⟩)
  obtain ⟨wa, hwa⟩ : ∃ wa, wa = w.alloc (.cells #[.int .i64 5, .int .i64 on, .int .i64 fm, .string nx, .int .i64 sx] 32) := ⟨_, rfl⟩
  obtain ⟨bo, hbo⟩ : ∃ bo, bo = w.heap.size := ⟨_, rfl⟩
  have hBa : Below w.heap.size w wa := by rw [hwa]; exact below_alloc _ _
  have hblk : wa.heap[bo]? = some (.cells #[.int .i64 5, .int .i64 on, .int .i64 fm, .string nx, .int .i64 sx] 32 (0, 0)) := by rw [hwa, hbo]; exact heap_alloc_new w _
  have HBLK := Lib.hid hblk
  have HB := Lib.hid (hb.below hBa)
  have HR := Lib.hid (hr.below hBa)
  have HD := Lib.hid hd
  have HBS := Lib.hid (show ∀ k, k ∈ S ∨ k ∈ T → k < w.heap.size from fun k h => h.elim (hb.mem k) (hr.mem k))
  clear hb hr hd
  have HW := Lib.hid (And.intro hwa hbo)
  clear hwa hbo hblk
  go_enter Try.func12, Try.ntmps12
  go_wp2_with fail
  rw [← HW.out.1, ← HW.out.2]
  have c2 : wa.cell? ⟨bo, 2, none⟩ = some (.int .i64 fm) := cell_in HBLK.out 2 rfl
  have c3 : wa.cell? ⟨bo, 3, none⟩ = some (.string nx) := cell_in HBLK.out 3 rfl
  have c4 : wa.cell? ⟨bo, 4, none⟩ = some (.int .i64 sx) := cell_in HBLK.out 4 rfl
  have c5 : bo < wa.heap.size := lt_of_block HBLK.out
  have HR0 := Lib.hid (HR.out.below (Below.drewN' wa 1))
  have HB0 := Lib.hid (HB.out.below (Below.drewN' wa 1))
  go_region_held3 (fun w' => w'.cell? ⟨bo, 2, none⟩ = some (.int .i64 fm) ∧ w'.cell? ⟨bo, 3, none⟩ = some (.string nx))
    (first | go_keep | exact ⟨keep_cell h2 (Nat.lt_of_lt_of_le c5 h1.size) (keep_cell h1 c5 c2), keep_cell h2 (Nat.lt_of_lt_of_le c5 h1.size) (keep_cell h1 c5 c3)⟩ | exact ⟨keep_cell h1 c5 c2, keep_cell h1 c5 c3⟩)
    ((first | (go_at_call 21; refine (find_any HB0.out _ _).mono ?_; rintro e w1 ⟨rfl, h1⟩) | (go_at_call 26; refine (rfind_any (AllIs.of (HR0.out.below h1)) _ _).mono ?_; rintro e w2 ⟨rfl, h2⟩)))
  have HZ := Lib.hid (hBa.trans ((Below.both (Below.drewN' wa 1) (Below.both h1 h2)).mono hBa.size))
  clear h1 h2 c2 c3 c4 c5
  go_wp2_with fail
  go_ret
  exact Rights.same HS.out HZ.out

set_option maxRecDepth 100000 in
set_option maxHeartbeats 4000000 in
theorem right_7 {w : World} {b r : Nat} {S T : List Nat} {es : List Ent} {cl : Nat → Bool} (hb : Book w b S es cl) (hr : RBook w r T es cl) (hd : ∀ k ∈ S, k ∉ T) (on fm : Int) (nx : ByteArray) (sx : Int) (_hnx : nx.size ≤ maxLen)  :
    Calls Try.prog 12 #[.pointer (some ⟨b, 0, none⟩), .pointer (some ⟨r, 0, none⟩), .agg #[.int .i64 7, .int .i64 on, .int .i64 fm, .string nx, .int .i64 sx]] w (Rights (.pointer (some ⟨b, 0, none⟩)) (.pointer (some ⟨r, 0, none⟩)) (S ++ T) w) := by
  have HS := Lib.hid (show Side w (.pointer (some ⟨b, 0, none⟩)) (.pointer (some ⟨r, 0, none⟩)) (S ++ T) from .inr ⟨b, r, S, T, es, cl, rfl, rfl, hb, hr, hd, rfl⟩)
  obtain ⟨wa, hwa⟩ : ∃ wa, wa = w.alloc (.cells #[.int .i64 7, .int .i64 on, .int .i64 fm, .string nx, .int .i64 sx] 32) := ⟨_, rfl⟩
  obtain ⟨bo, hbo⟩ : ∃ bo, bo = w.heap.size := ⟨_, rfl⟩
  have hBa : Below w.heap.size w wa := by rw [hwa]; exact below_alloc _ _
  have hblk : wa.heap[bo]? = some (.cells #[.int .i64 7, .int .i64 on, .int .i64 fm, .string nx, .int .i64 sx] 32 (0, 0)) := by rw [hwa, hbo]; exact heap_alloc_new w _
  have HBLK := Lib.hid hblk
  have HB := Lib.hid (hb.below hBa)
  have HR := Lib.hid (hr.below hBa)
  have HD := Lib.hid hd
  have HBS := Lib.hid (show ∀ k, k ∈ S ∨ k ∈ T → k < w.heap.size from fun k h => h.elim (hb.mem k) (hr.mem k))
  clear hb hr hd
  have HW := Lib.hid (And.intro hwa hbo)
  clear hwa hbo hblk
  go_enter Try.func12, Try.ntmps12
  go_wp2_with fail
  rw [← HW.out.1, ← HW.out.2]
  have c2 : wa.cell? ⟨bo, 2, none⟩ = some (.int .i64 fm) := cell_in HBLK.out 2 rfl
  have c3 : wa.cell? ⟨bo, 3, none⟩ = some (.string nx) := cell_in HBLK.out 3 rfl
  have c4 : wa.cell? ⟨bo, 4, none⟩ = some (.int .i64 sx) := cell_in HBLK.out 4 rfl
  have c5 : bo < wa.heap.size := lt_of_block HBLK.out
  have HR0 := Lib.hid (HR.out.below (Below.drewN' wa 1))
  have HB0 := Lib.hid (HB.out.below (Below.drewN' wa 1))
  go_region_held3 (fun w' => w'.cell? ⟨bo, 2, none⟩ = some (.int .i64 fm))
    (first | go_keep | exact keep_cell h2 (Nat.lt_of_lt_of_le c5 h1.size) (keep_cell h1 c5 c2) | exact keep_cell h1 c5 c2)
    ((first | (go_at_call 18; refine (count_any HB0.out _).mono ?_; rintro e w1 ⟨rfl, h1⟩) | (go_at_call 19; refine (rcount_any (AllIs.of (HR0.out.below h1)) _).mono ?_; rintro e w2 ⟨rfl, h2⟩)))
  have HZ := Lib.hid (hBa.trans ((Below.both (Below.drewN' wa 1) (Below.both h1 h2)).mono hBa.size))
  clear h1 h2 c2 c3 c4 c5
  go_wp2_with fail
  go_ret
  exact Rights.same HS.out HZ.out

set_option maxRecDepth 100000 in
set_option maxHeartbeats 4000000 in
theorem right_6 {w : World} {b r : Nat} {S T : List Nat} {es : List Ent} {cl : Nat → Bool} (hb : Book w b S es cl) (hr : RBook w r T es cl) (hd : ∀ k ∈ S, k ∉ T) (on fm : Int) (nx : ByteArray) (sx : Int) (_hnx : nx.size ≤ maxLen)  :
    Calls Try.prog 12 #[.pointer (some ⟨b, 0, none⟩), .pointer (some ⟨r, 0, none⟩), .agg #[.int .i64 6, .int .i64 on, .int .i64 fm, .string nx, .int .i64 sx]] w (Rights (.pointer (some ⟨b, 0, none⟩)) (.pointer (some ⟨r, 0, none⟩)) (S ++ T) w) := by
  have HS := Lib.hid (show Side w (.pointer (some ⟨b, 0, none⟩)) (.pointer (some ⟨r, 0, none⟩)) (S ++ T) from .inr ⟨b, r, S, T, es, cl, rfl, rfl, hb, hr, hd, rfl⟩)
  obtain ⟨wa, hwa⟩ : ∃ wa, wa = w.alloc (.cells #[.int .i64 6, .int .i64 on, .int .i64 fm, .string nx, .int .i64 sx] 32) := ⟨_, rfl⟩
  obtain ⟨bo, hbo⟩ : ∃ bo, bo = w.heap.size := ⟨_, rfl⟩
  have hBa : Below w.heap.size w wa := by rw [hwa]; exact below_alloc _ _
  have hblk : wa.heap[bo]? = some (.cells #[.int .i64 6, .int .i64 on, .int .i64 fm, .string nx, .int .i64 sx] 32 (0, 0)) := by rw [hwa, hbo]; exact heap_alloc_new w _
  have HBLK := Lib.hid hblk
  have HB := Lib.hid (hb.below hBa)
  have HR := Lib.hid (hr.below hBa)
  have HD := Lib.hid hd
  have HBS := Lib.hid (show ∀ k, k ∈ S ∨ k ∈ T → k < w.heap.size from fun k h => h.elim (hb.mem k) (hr.mem k))
  clear hb hr hd
  have HW := Lib.hid (And.intro hwa hbo)
  clear hwa hbo hblk
  go_enter Try.func12, Try.ntmps12
  go_wp2_with fail
  rw [← HW.out.1, ← HW.out.2]
  refine (at_gives HB.out _ _).mono ?_
  rintro e w1 ⟨xf, xn, xm, xs, y, HX, rfl, h1⟩
  have d5 := lt_of_block HBLK.out
  have HBLK1 := Lib.hid ((h1.block bo d5).trans HBLK.out)
  have HR1 := Lib.hid ((HR.out.below h1).below (below_alloc w1 (.cells #[.int .i64 xf, .int .i64 xn, .string xm, .int .i64 xs] 40)))
  clear d5 HBLK
  have HBLK := HBLK1
  clear HBLK1
  have c2 : w1.cell? ⟨bo, 2, none⟩ = some (.int .i64 fm) := cell_in HBLK.out 2 rfl
  have c3 : w1.cell? ⟨bo, 3, none⟩ = some (.string nx) := cell_in HBLK.out 3 rfl
  have c4 : w1.cell? ⟨bo, 4, none⟩ = some (.int .i64 sx) := cell_in HBLK.out 4 rfl
  have c5 : bo < w1.heap.size := lt_of_block HBLK.out
  go_wp2_with fail
  obtain ⟨bx, hbx⟩ : ∃ bx, bx = w1.heap.size := ⟨_, rfl⟩
  obtain ⟨w2, hw2⟩ : ∃ w2, w2 = w1.alloc (.cells #[.int .i64 xf, .int .i64 xn, .string xm, .int .i64 xs] 40) := ⟨_, rfl⟩
  have h2 : Below w1.heap.size w1 w2 := by rw [hw2]; exact below_alloc _ _
  have HBX := Lib.hid (show w2.heap[bx]? = some (.cells #[.int .i64 xf, .int .i64 xn, .string xm, .int .i64 xs] 40 (0, 0)) by rw [hw2, hbx]; exact heap_alloc_new w1 _)
  rw [← hw2] at HR1
  rw [← hw2, ← hbx]
  clear hw2 hbx c2 c3 c4 c5
  refine (rat_gives (AllIs.of HR1.out) _ _).mono ?_
  rintro e w3 ⟨zf, zn, zm, zs, zy, HZ, rfl, h3⟩
  obtain ⟨rfl, rfl, rfl, rfl, hyy⟩ := same_at HX HZ
  subst hyy
  have e5 := lt_of_block HBX.out
  have HBX3 := Lib.hid ((h3.block bx e5).trans HBX.out)
  have HW2 := Lib.hid (hBa.trans ((Below.both h1 (Below.both h2 h3)).mono hBa.size))
  have e0 : w3.cell? ⟨bx, 0, none⟩ = some (.int .i64 xf) := cell_in HBX3.out 0 rfl
  have e1 : w3.cell? ⟨bx, 1, none⟩ = some (.int .i64 xn) := cell_in HBX3.out 1 rfl
  have e2 : w3.cell? ⟨bx, 2, none⟩ = some (.string xm) := cell_in HBX3.out 2 rfl
  have e3 : w3.cell? ⟨bx, 3, none⟩ = some (.int .i64 xs) := cell_in HBX3.out 3 rfl
  have e6 := Nat.lt_of_lt_of_le e5 h3.size
  clear e5 h1 h2 h3 HX HZ
  go_wp2_with fail
  go_ret
  exact Rights.same HS.out (HW2.out.trans ((below_alloc _ _).mono HW2.out.size))

set_option maxRecDepth 100000 in
set_option maxHeartbeats 4000000 in
theorem right_o {w : World} {b r : Nat} {S T : List Nat} {es : List Ent} {cl : Nat → Bool} (hb : Book w b S es cl) (hr : RBook w r T es cl) (hd : ∀ k ∈ S, k ∉ T) (kd on fm : Int) (nx : ByteArray) (sx : Int) (_hnx : nx.size ≤ maxLen) (q1 : (kd == 1) = false) (q2 : (kd == 2) = false) (q3 : (kd == 3) = false) (q4 : (kd == 4) = false) (q5 : (kd == 5) = false) (q6 : (kd == 6) = false) (q7 : (kd == 7) = false) :
    Calls Try.prog 12 #[.pointer (some ⟨b, 0, none⟩), .pointer (some ⟨r, 0, none⟩), .agg #[.int .i64 kd, .int .i64 on, .int .i64 fm, .string nx, .int .i64 sx]] w (Rights (.pointer (some ⟨b, 0, none⟩)) (.pointer (some ⟨r, 0, none⟩)) (S ++ T) w) := by
  have HS := Lib.hid (show Side w (.pointer (some ⟨b, 0, none⟩)) (.pointer (some ⟨r, 0, none⟩)) (S ++ T) from .inr ⟨b, r, S, T, es, cl, rfl, rfl, hb, hr, hd, rfl⟩)
  obtain ⟨wa, hwa⟩ : ∃ wa, wa = w.alloc (.cells #[.int .i64 kd, .int .i64 on, .int .i64 fm, .string nx, .int .i64 sx] 32) := ⟨_, rfl⟩
  obtain ⟨bo, hbo⟩ : ∃ bo, bo = w.heap.size := ⟨_, rfl⟩
  have hBa : Below w.heap.size w wa := by rw [hwa]; exact below_alloc _ _
  have hblk : wa.heap[bo]? = some (.cells #[.int .i64 kd, .int .i64 on, .int .i64 fm, .string nx, .int .i64 sx] 32 (0, 0)) := by rw [hwa, hbo]; exact heap_alloc_new w _
  have HBLK := Lib.hid hblk
  have HB := Lib.hid (hb.below hBa)
  have HR := Lib.hid (hr.below hBa)
  have HD := Lib.hid hd
  have HBS := Lib.hid (show ∀ k, k ∈ S ∨ k ∈ T → k < w.heap.size from fun k h => h.elim (hb.mem k) (hr.mem k))
  clear hb hr hd
  have HW := Lib.hid (And.intro hwa hbo)
  clear hwa hbo hblk
  go_enter Try.func12, Try.ntmps12
  go_wp2_with fail
  go_ret
  rw [← HW.out.1]
  exact Rights.same HS.out hBa

set_option maxRecDepth 100000 in
set_option maxHeartbeats 4000000 in
theorem right_o_nil (kd on fm : Int) (nx : ByteArray) (sx : Int) (w : World) (q1 : (kd == 1) = false) (q2 : (kd == 2) = false) (q3 : (kd == 3) = false) (q4 : (kd == 4) = false) (q5 : (kd == 5) = false) (q6 : (kd == 6) = false) (q7 : (kd == 7) = false) :
    Calls Try.prog 12 #[.pointer none, .pointer none, .agg #[.int .i64 kd, .int .i64 on, .int .i64 fm, .string nx, .int .i64 sx]] w (Rights (.pointer none) (.pointer none) [] w) := by
  have HS := Lib.hid (show Side w (.pointer none) (.pointer none) [] from .inl ⟨rfl, rfl, rfl⟩)
  obtain ⟨wa, hwa⟩ : ∃ wa, wa = w.alloc (.cells #[.int .i64 kd, .int .i64 on, .int .i64 fm, .string nx, .int .i64 sx] 32) := ⟨_, rfl⟩
  obtain ⟨bo, hbo⟩ : ∃ bo, bo = w.heap.size := ⟨_, rfl⟩
  have hBa : Below w.heap.size w wa := by rw [hwa]; exact below_alloc _ _
  have hblk : wa.heap[bo]? = some (.cells #[.int .i64 kd, .int .i64 on, .int .i64 fm, .string nx, .int .i64 sx] 32 (0, 0)) := by rw [hwa, hbo]; exact heap_alloc_new w _
  have HBLK := Lib.hid hblk
  have HW := Lib.hid (And.intro hwa hbo)
  clear hwa hbo hblk
  go_enter Try.func12, Try.ntmps12
  go_wp2_with fail
  go_ret
  rw [← HW.out.1]
  exact Rights.same HS.out hBa

set_option maxRecDepth 100000 in
set_option maxHeartbeats 4000000 in
theorem right_1_nil (on fm : Int) (nx : ByteArray) (sx : Int) (w : World)  :
    Calls Try.prog 12 #[.pointer none, .pointer none, .agg #[.int .i64 1, .int .i64 on, .int .i64 fm, .string nx, .int .i64 sx]] w (Rights (.pointer none) (.pointer none) [] w) := by
  have HS := Lib.hid (show Side w (.pointer none) (.pointer none) [] from .inl ⟨rfl, rfl, rfl⟩)
  obtain ⟨wa, hwa⟩ : ∃ wa, wa = w.alloc (.cells #[.int .i64 1, .int .i64 on, .int .i64 fm, .string nx, .int .i64 sx] 32) := ⟨_, rfl⟩
  obtain ⟨bo, hbo⟩ : ∃ bo, bo = w.heap.size := ⟨_, rfl⟩
  have hBa : Below w.heap.size w wa := by rw [hwa]; exact below_alloc _ _
  have hblk : wa.heap[bo]? = some (.cells #[.int .i64 1, .int .i64 on, .int .i64 fm, .string nx, .int .i64 sx] 32 (0, 0)) := by rw [hwa, hbo]; exact heap_alloc_new w _
  have HBLK := Lib.hid hblk
  have HW := Lib.hid (And.intro hwa hbo)
  clear hwa hbo hblk
  go_enter Try.func12, Try.ntmps12
  go_wp2_with fail
  rw [← HW.out.1, ← HW.out.2]
  clear hBa
  have hBa : Below w.heap.size w wa := by rw [HW.out.1]; exact below_alloc _ _
  refine (enter_nil _ _ _ _).mono ?_
  rintro e w1 ⟨rfl, rfl⟩
  have c2 : wa.cell? ⟨bo, 2, none⟩ = some (.int .i64 fm) := cell_in HBLK.out 2 rfl
  have c3 : wa.cell? ⟨bo, 3, none⟩ = some (.string nx) := cell_in HBLK.out 3 rfl
  have c4 : wa.cell? ⟨bo, 4, none⟩ = some (.int .i64 sx) := cell_in HBLK.out 4 rfl
  have c5 : bo < wa.heap.size := lt_of_block HBLK.out
  go_wp2_with fail
  clear c2 c3 c4 c5
  refine (renter_nil _ _ _ _).mono ?_
  rintro e w2 ⟨rfl, rfl⟩
  go_wp2_with fail
  go_ret
  exact Rights.same HS.out hBa

set_option maxRecDepth 100000 in
set_option maxHeartbeats 4000000 in
theorem right_2_nil (on fm : Int) (nx : ByteArray) (sx : Int) (w : World)  :
    Calls Try.prog 12 #[.pointer none, .pointer none, .agg #[.int .i64 2, .int .i64 on, .int .i64 fm, .string nx, .int .i64 sx]] w (Rights (.pointer none) (.pointer none) [] w) := by
  have HS := Lib.hid (show Side w (.pointer none) (.pointer none) [] from .inl ⟨rfl, rfl, rfl⟩)
  obtain ⟨wa, hwa⟩ : ∃ wa, wa = w.alloc (.cells #[.int .i64 2, .int .i64 on, .int .i64 fm, .string nx, .int .i64 sx] 32) := ⟨_, rfl⟩
  obtain ⟨bo, hbo⟩ : ∃ bo, bo = w.heap.size := ⟨_, rfl⟩
  have hBa : Below w.heap.size w wa := by rw [hwa]; exact below_alloc _ _
  have hblk : wa.heap[bo]? = some (.cells #[.int .i64 2, .int .i64 on, .int .i64 fm, .string nx, .int .i64 sx] 32 (0, 0)) := by rw [hwa, hbo]; exact heap_alloc_new w _
  have HBLK := Lib.hid hblk
  have HW := Lib.hid (And.intro hwa hbo)
  clear hwa hbo hblk
  go_enter Try.func12, Try.ntmps12
  go_wp2_with fail
  rw [← HW.out.1, ← HW.out.2]
  clear hBa
  have hBa : Below w.heap.size w wa := by rw [HW.out.1]; exact below_alloc _ _
  refine (close_nil _ _).mono ?_
  rintro e w1 ⟨rfl, rfl⟩
  have c2 : wa.cell? ⟨bo, 2, none⟩ = some (.int .i64 fm) := cell_in HBLK.out 2 rfl
  have c3 : wa.cell? ⟨bo, 3, none⟩ = some (.string nx) := cell_in HBLK.out 3 rfl
  have c4 : wa.cell? ⟨bo, 4, none⟩ = some (.int .i64 sx) := cell_in HBLK.out 4 rfl
  have c5 : bo < wa.heap.size := lt_of_block HBLK.out
  go_wp2_with fail
  clear c2 c3 c4 c5
  refine (rclose_nil _ _).mono ?_
  rintro e w2 ⟨rfl, rfl⟩
  go_wp2_with fail
  go_ret
  exact Rights.same HS.out hBa

set_option maxRecDepth 100000 in
set_option maxHeartbeats 4000000 in
theorem right_3_nil (on fm : Int) (nx : ByteArray) (sx : Int) (w : World)  :
    Calls Try.prog 12 #[.pointer none, .pointer none, .agg #[.int .i64 3, .int .i64 on, .int .i64 fm, .string nx, .int .i64 sx]] w (Rights (.pointer none) (.pointer none) [] w) := by
  have HS := Lib.hid (show Side w (.pointer none) (.pointer none) [] from .inl ⟨rfl, rfl, rfl⟩)
  obtain ⟨wa, hwa⟩ : ∃ wa, wa = w.alloc (.cells #[.int .i64 3, .int .i64 on, .int .i64 fm, .string nx, .int .i64 sx] 32) := ⟨_, rfl⟩
  obtain ⟨bo, hbo⟩ : ∃ bo, bo = w.heap.size := ⟨_, rfl⟩
  have hBa : Below w.heap.size w wa := by rw [hwa]; exact below_alloc _ _
  have hblk : wa.heap[bo]? = some (.cells #[.int .i64 3, .int .i64 on, .int .i64 fm, .string nx, .int .i64 sx] 32 (0, 0)) := by rw [hwa, hbo]; exact heap_alloc_new w _
  have HBLK := Lib.hid hblk
  have HW := Lib.hid (And.intro hwa hbo)
  clear hwa hbo hblk
  go_enter Try.func12, Try.ntmps12
  go_wp2_with fail
  rw [← HW.out.1, ← HW.out.2]
  have c2 : wa.cell? ⟨bo, 2, none⟩ = some (.int .i64 fm) := cell_in HBLK.out 2 rfl
  have c3 : wa.cell? ⟨bo, 3, none⟩ = some (.string nx) := cell_in HBLK.out 3 rfl
  have c4 : wa.cell? ⟨bo, 4, none⟩ = some (.int .i64 sx) := cell_in HBLK.out 4 rfl
  have c5 : bo < wa.heap.size := lt_of_block HBLK.out
  go_quiet ((first | (go_at_call 16; exact open_nil_quiet _) | (go_at_call 17; exact ropen_nil_quiet _)))
  go_wp2_with fail
  go_ret
  exact Rights.same HS.out (hBa.trans ((Below.drewN' wa _).mono hBa.size))

set_option maxRecDepth 100000 in
set_option maxHeartbeats 4000000 in
theorem right_4_nil (on fm : Int) (nx : ByteArray) (sx : Int) (w : World)  :
    Calls Try.prog 12 #[.pointer none, .pointer none, .agg #[.int .i64 4, .int .i64 on, .int .i64 fm, .string nx, .int .i64 sx]] w (Rights (.pointer none) (.pointer none) [] w) := by
  have HS := Lib.hid (show Side w (.pointer none) (.pointer none) [] from .inl ⟨rfl, rfl, rfl⟩)
  obtain ⟨wa, hwa⟩ : ∃ wa, wa = w.alloc (.cells #[.int .i64 4, .int .i64 on, .int .i64 fm, .string nx, .int .i64 sx] 32) := ⟨_, rfl⟩
  obtain ⟨bo, hbo⟩ : ∃ bo, bo = w.heap.size := ⟨_, rfl⟩
  have hBa : Below w.heap.size w wa := by rw [hwa]; exact below_alloc _ _
  have hblk : wa.heap[bo]? = some (.cells #[.int .i64 4, .int .i64 on, .int .i64 fm, .string nx, .int .i64 sx] 32 (0, 0)) := by rw [hwa, hbo]; exact heap_alloc_new w _
  have HBLK := Lib.hid hblk
  have HW := Lib.hid (And.intro hwa hbo)
  clear hwa hbo hblk
  go_enter Try.func12, Try.ntmps12
  go_wp2_with fail
  rw [← HW.out.1, ← HW.out.2]
  refine (all_nil _).mono ?_
  rintro e w1 ⟨rfl, rfl⟩
  go_wp2_with fail
  refine (rall_nil _).mono ?_
  rintro e w2 ⟨v2, rfl, hv2, hB2⟩
  have HV2 := Lib.hid hv2
  clear hv2
  go_wp2_with fail
  refine (same_true (es := []) (World.ownsRow_nil w2 0 _ 4) HV2.out).mono ?_
  rintro e w3 ⟨rfl, hB3⟩
  have HZ := Lib.hid (hBa.trans ((Below.both hB2 hB3).mono hBa.size))
  clear hB2 hB3
  go_wp2_with fail
  go_ret
  exact Rights.same HS.out HZ.out

set_option maxRecDepth 100000 in
set_option maxHeartbeats 4000000 in
theorem right_5_nil (on fm : Int) (nx : ByteArray) (sx : Int) (w : World)  :
    Calls Try.prog 12 #[.pointer none, .pointer none, .agg #[.int .i64 5, .int .i64 on, .int .i64 fm, .string nx, .int .i64 sx]] w (Rights (.pointer none) (.pointer none) [] w) := by
  have HS := Lib.hid (show Side w (.pointer none) (.pointer none) [] from .inl ⟨rfl, rfl, rfl⟩)
  obtain ⟨wa, hwa⟩ : ∃ wa, wa = w.alloc (.cells #[.int .i64 5, .int .i64 on, .int .i64 fm, .string nx, .int .i64 sx] 32) := ⟨_, rfl⟩
  obtain ⟨bo, hbo⟩ : ∃ bo, bo = w.heap.size := ⟨_, rfl⟩
  have hBa : Below w.heap.size w wa := by rw [hwa]; exact below_alloc _ _
  have hblk : wa.heap[bo]? = some (.cells #[.int .i64 5, .int .i64 on, .int .i64 fm, .string nx, .int .i64 sx] 32 (0, 0)) := by rw [hwa, hbo]; exact heap_alloc_new w _
  have HBLK := Lib.hid hblk
  have HW := Lib.hid (And.intro hwa hbo)
  clear hwa hbo hblk
  go_enter Try.func12, Try.ntmps12
  go_wp2_with fail
  rw [← HW.out.1, ← HW.out.2]
  have c2 : wa.cell? ⟨bo, 2, none⟩ = some (.int .i64 fm) := cell_in HBLK.out 2 rfl
  have c3 : wa.cell? ⟨bo, 3, none⟩ = some (.string nx) := cell_in HBLK.out 3 rfl
  have c4 : wa.cell? ⟨bo, 4, none⟩ = some (.int .i64 sx) := cell_in HBLK.out 4 rfl
  have c5 : bo < wa.heap.size := lt_of_block HBLK.out
  go_region_held3 (fun w' => w'.cell? ⟨bo, 2, none⟩ = some (.int .i64 fm) ∧ w'.cell? ⟨bo, 3, none⟩ = some (.string nx))
    (first | go_keep | exact ⟨keep_cell h1 c5 c2, keep_cell h1 c5 c3⟩)
    ((first | (go_at_call 21; refine (find_nil _ _ _).mono ?_; rintro e w1 ⟨rfl, rfl⟩) | (go_at_call 26; refine (rfind_any (AllIs.nil _) _ _).mono ?_; rintro e w2 ⟨rfl, h1⟩)))
  have HZ := Lib.hid (hBa.trans ((Below.both (Below.drewN' wa 1) h1).mono hBa.size))
  clear h1 c2 c3 c4 c5
  go_wp2_with fail
  go_ret
  exact Rights.same HS.out HZ.out

set_option maxRecDepth 100000 in
set_option maxHeartbeats 4000000 in
theorem right_7_nil (on fm : Int) (nx : ByteArray) (sx : Int) (w : World)  :
    Calls Try.prog 12 #[.pointer none, .pointer none, .agg #[.int .i64 7, .int .i64 on, .int .i64 fm, .string nx, .int .i64 sx]] w (Rights (.pointer none) (.pointer none) [] w) := by
  have HS := Lib.hid (show Side w (.pointer none) (.pointer none) [] from .inl ⟨rfl, rfl, rfl⟩)
  obtain ⟨wa, hwa⟩ : ∃ wa, wa = w.alloc (.cells #[.int .i64 7, .int .i64 on, .int .i64 fm, .string nx, .int .i64 sx] 32) := ⟨_, rfl⟩
  obtain ⟨bo, hbo⟩ : ∃ bo, bo = w.heap.size := ⟨_, rfl⟩
  have hBa : Below w.heap.size w wa := by rw [hwa]; exact below_alloc _ _
  have hblk : wa.heap[bo]? = some (.cells #[.int .i64 7, .int .i64 on, .int .i64 fm, .string nx, .int .i64 sx] 32 (0, 0)) := by rw [hwa, hbo]; exact heap_alloc_new w _
  have HBLK := Lib.hid hblk
  have HW := Lib.hid (And.intro hwa hbo)
  clear hwa hbo hblk
  go_enter Try.func12, Try.ntmps12
  go_wp2_with fail
  rw [← HW.out.1, ← HW.out.2]
  have c2 : wa.cell? ⟨bo, 2, none⟩ = some (.int .i64 fm) := cell_in HBLK.out 2 rfl
  have c3 : wa.cell? ⟨bo, 3, none⟩ = some (.string nx) := cell_in HBLK.out 3 rfl
  have c4 : wa.cell? ⟨bo, 4, none⟩ = some (.int .i64 sx) := cell_in HBLK.out 4 rfl
  have c5 : bo < wa.heap.size := lt_of_block HBLK.out
  go_region_held3 (fun w' => w'.cell? ⟨bo, 2, none⟩ = some (.int .i64 fm))
    (first | go_keep | exact keep_cell h1 c5 c2)
    ((first | (go_at_call 18; refine (count_nil _ _).mono ?_; rintro e w1 ⟨rfl, rfl⟩) | (go_at_call 19; refine (rcount_any (AllIs.nil _) _).mono ?_; rintro e w2 ⟨rfl, h1⟩)))
  have HZ := Lib.hid (hBa.trans ((Below.both (Below.drewN' wa 1) h1).mono hBa.size))
  clear h1 c2 c3 c4 c5
  go_wp2_with fail
  go_ret
  exact Rights.same HS.out HZ.out

set_option maxRecDepth 100000 in
set_option maxHeartbeats 4000000 in
theorem right_6_nil (on fm : Int) (nx : ByteArray) (sx : Int) (w : World)  :
    Calls Try.prog 12 #[.pointer none, .pointer none, .agg #[.int .i64 6, .int .i64 on, .int .i64 fm, .string nx, .int .i64 sx]] w (Rights (.pointer none) (.pointer none) [] w) := by
  have HS := Lib.hid (show Side w (.pointer none) (.pointer none) [] from .inl ⟨rfl, rfl, rfl⟩)
  obtain ⟨wa, hwa⟩ : ∃ wa, wa = w.alloc (.cells #[.int .i64 6, .int .i64 on, .int .i64 fm, .string nx, .int .i64 sx] 32) := ⟨_, rfl⟩
  obtain ⟨bo, hbo⟩ : ∃ bo, bo = w.heap.size := ⟨_, rfl⟩
  have hBa : Below w.heap.size w wa := by rw [hwa]; exact below_alloc _ _
  have hblk : wa.heap[bo]? = some (.cells #[.int .i64 6, .int .i64 on, .int .i64 fm, .string nx, .int .i64 sx] 32 (0, 0)) := by rw [hwa, hbo]; exact heap_alloc_new w _
  have HBLK := Lib.hid hblk
  have HW := Lib.hid (And.intro hwa hbo)
  clear hwa hbo hblk
  go_enter Try.func12, Try.ntmps12
  go_wp2_with fail
  rw [← HW.out.1, ← HW.out.2]
  refine (at_gives_nil _ _ _).mono ?_
  rintro e w1 ⟨xf, xn, xm, xs, y, HX, rfl, h1⟩
  have d5 := lt_of_block HBLK.out
  have HBLK1 := Lib.hid ((h1.block bo d5).trans HBLK.out)
  clear d5 HBLK
  have HBLK := HBLK1
  clear HBLK1
  have c2 : w1.cell? ⟨bo, 2, none⟩ = some (.int .i64 fm) := cell_in HBLK.out 2 rfl
  have c3 : w1.cell? ⟨bo, 3, none⟩ = some (.string nx) := cell_in HBLK.out 3 rfl
  have c4 : w1.cell? ⟨bo, 4, none⟩ = some (.int .i64 sx) := cell_in HBLK.out 4 rfl
  have c5 : bo < w1.heap.size := lt_of_block HBLK.out
  go_wp2_with fail
  obtain ⟨bx, hbx⟩ : ∃ bx, bx = w1.heap.size := ⟨_, rfl⟩
  obtain ⟨w2, hw2⟩ : ∃ w2, w2 = w1.alloc (.cells #[.int .i64 xf, .int .i64 xn, .string xm, .int .i64 xs] 40) := ⟨_, rfl⟩
  have h2 : Below w1.heap.size w1 w2 := by rw [hw2]; exact below_alloc _ _
  have HBX := Lib.hid (show w2.heap[bx]? = some (.cells #[.int .i64 xf, .int .i64 xn, .string xm, .int .i64 xs] 40 (0, 0)) by rw [hw2, hbx]; exact heap_alloc_new w1 _)
  rw [← hw2, ← hbx]
  clear hw2 hbx c2 c3 c4 c5
  refine (rat_gives (AllIs.nil _) _ _).mono ?_
  rintro e w3 ⟨zf, zn, zm, zs, zy, HZ, rfl, h3⟩
  obtain ⟨rfl, rfl, rfl, rfl, hyy⟩ := same_at HX HZ
  subst hyy
  have e5 := lt_of_block HBX.out
  have HBX3 := Lib.hid ((h3.block bx e5).trans HBX.out)
  have HW2 := Lib.hid (hBa.trans ((Below.both h1 (Below.both h2 h3)).mono hBa.size))
  have e0 : w3.cell? ⟨bx, 0, none⟩ = some (.int .i64 xf) := cell_in HBX3.out 0 rfl
  have e1 : w3.cell? ⟨bx, 1, none⟩ = some (.int .i64 xn) := cell_in HBX3.out 1 rfl
  have e2 : w3.cell? ⟨bx, 2, none⟩ = some (.string xm) := cell_in HBX3.out 2 rfl
  have e3 : w3.cell? ⟨bx, 3, none⟩ = some (.int .i64 xs) := cell_in HBX3.out 3 rfl
  have e6 := Nat.lt_of_lt_of_le e5 h3.size
  clear e5 h1 h2 h3 HX HZ
  go_wp2_with fail
  go_ret
  exact Rights.same HS.out (HW2.out.trans ((below_alloc _ _).mono HW2.out.size))

theorem right_any {w : World} {bv rv : Value} {F : List Nat} (h : Side w bv rv F) (r : Rec) (hn : r.name.size ≤ maxLen) :
    Calls Try.prog 12 #[bv, rv, .agg #[.int .i64 r.kind, .int .i64 r.on, .int .i64 r.fam, .string r.name, .int .i64 r.size]] w (Rights bv rv F w) := by
  obtain ⟨kd, on, fm, nx, sx⟩ := r
  dsimp only at hn ⊢
  rcases h with ⟨rfl, rfl, rfl⟩ | ⟨b, r, S, T, es, cl, rfl, rfl, hb, hr, hd, rfl⟩
  · by_cases h1 : kd = 1
    · subst h1; exact right_1_nil on fm nx sx w
    by_cases h2 : kd = 2
    · subst h2; exact right_2_nil on fm nx sx w
    by_cases h3 : kd = 3
    · subst h3; exact right_3_nil on fm nx sx w
    by_cases h4 : kd = 4
    · subst h4; exact right_4_nil on fm nx sx w
    by_cases h5 : kd = 5
    · subst h5; exact right_5_nil on fm nx sx w
    by_cases h6 : kd = 6
    · subst h6; exact right_6_nil on fm nx sx w
    by_cases h7 : kd = 7
    · subst h7; exact right_7_nil on fm nx sx w
    exact right_o_nil kd on fm nx sx w (by simpa using h1) (by simpa using h2) (by simpa using h3) (by simpa using h4) (by simpa using h5) (by simpa using h6) (by simpa using h7)
  · by_cases h1 : kd = 1
    · subst h1; exact right_1 hb hr hd on fm nx sx hn
    by_cases h2 : kd = 2
    · subst h2; exact right_2 hb hr hd on fm nx sx hn
    by_cases h3 : kd = 3
    · subst h3; exact right_3 hb hr hd on fm nx sx hn
    by_cases h4 : kd = 4
    · subst h4; exact right_4 hb hr hd on fm nx sx hn
    by_cases h5 : kd = 5
    · subst h5; exact right_5 hb hr hd on fm nx sx hn
    by_cases h6 : kd = 6
    · subst h6; exact right_6 hb hr hd on fm nx sx hn
    by_cases h7 : kd = 7
    · subst h7; exact right_7 hb hr hd on fm nx sx hn
    exact right_o hb hr hd kd on fm nx sx hn (by simpa using h1) (by simpa using h2) (by simpa using h3) (by simpa using h4) (by simpa using h5) (by simpa using h6) (by simpa using h7)

end Go.Proofs.Ytgdeeojamnbakaa
