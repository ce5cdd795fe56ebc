/- The walks of canStand, measure, Check, Size. -/
import Derived.Test.YthekbefbhjllnaaDoorTlvSize
import Derived.Test.YthekbefbhjllnaaDoorKindValid
namespace Go.Proofs.YthekbefbhjllnaaDoor
open Go.RowKit

theorem kval_any {w0 w : World} (h : KSt w0 w) (v : Val) (hf : Fit v) (hs : v.s.size ≤ 140737488355328) :
    Calls Tryd.prog 23 #[.agg (vvC v)] w fun e w' => e = .returned (.bool (okV v)) ∧ Below w.heap.size w w' :=
  (kvalid_any h.self v hf hs).mono fun _ _ ⟨he, hb⟩ => ⟨he, hb.below⟩

set_option maxRecDepth 100000 in
set_option maxHeartbeats 1000000 in
theorem can_any {w0 w : World} (h : KSt w0 w) (f : Fd) (last : Int) (hf : Fit f.v) (hs : f.v.s.size ≤ 140737488355328) :
    Calls Tryd.prog 41 #[.agg (ffC f), .int .i64 last] w fun e w' => e = .returned (.bool (canF f last)) ∧ Below w.heap.size w w' := by
  have cv := fun {W : World} (q : KSt w0 W) => kval_any q f.v hf hs
  obtain ⟨t, v⟩ := f
  obtain ⟨k, n, s⟩ := v
  unfold ffC canF
  unfold vvC at cv
  dsimp only at cv ⊢
  clear hf hs
  obtain ⟨V, hV⟩ : ∃ V, okV ⟨k, n, s⟩ = V := ⟨_, rfl⟩
  rw [hV] at cv ⊢
  clear hV
  have h1 := h.new (.cells #[.int .i64 t, .int .i64 k, .int .u64 n, .string s] 41)
  have hB : Below w.heap.size w (w.alloc (.cells #[.int .i64 t, .int .i64 k, .int .u64 n, .string s] 41)) := (Below.refl _ _).alloc (Nat.le_refl _) _
  have HS := Lib.hid h
  clear h
  by_cases q1 : last < t
  · by_cases q2 : t ≤ 65535
    · go_enter Tryd.func41, Tryd.ntmps41
      go_wp2_with (go_at_call 23; refine (cv h1).mono ?_; rintro e w' ⟨rfl, hb⟩)
      go_ret
      exact ⟨ret_bool (by simp [q1, q2]), Below.both hB hb⟩
    · go_enter Tryd.func41, Tryd.ntmps41
      go_wp2
      go_ret
      exact ⟨ret_bool (by have : ¬ t ≤ 65535 := by omega
                          simp [this]), hB⟩
  · go_enter Tryd.func41, Tryd.ntmps41
    go_wp2
    go_ret
    exact ⟨ret_bool (by have : ¬ last < t := by omega
                        simp [this]), hB⟩

/-- one field more -/
theorem go_on {l : List Fd} {k : Nat} {f : Fd} (hi : l[k]? = some f) (h : Is 0 (l.take k)) (hc : canF f (lastOf 0 (l.take k)) = true) (hf : Fit f.v) :
    Is 0 (l.take (k + 1)) ∧ lastOf 0 (l.take (k + 1)) = f.t ∧ (enc (l.take (k + 1))).length = (enc (l.take k)).length + (fb f).length := by
  rw [take_snoc hi]
  exact ⟨is_snoc.2 ⟨h, hc, hf⟩, last_snoc _ _ _, by rw [enc_snoc, List.length_append]⟩
theorem last_nn {l : List Fd} (h : Is 0 l) : 0 ≤ lastOf 0 l := by have := (is_last h).1; omega
theorem enc_small {l : List Fd} (hg : Good l) (hl : Light l) (k : Nat) (h : Is 0 (l.take k)) : (enc (l.take k)).length ≤ 65011712 := by
  have h1 := enc_le (Int.le_refl 0) h (hg.take k)
  have h2 := hl.take k
  have h3 := h2.len
  have h4 := h2.txt
  omega
/-- what a round of a loop over fields needs -/
theorem can_key {f : Fd} {last : Int} (h : canF f last = true) (h0 : 0 ≤ last) : 0 ≤ f.t ∧ f.t ≤ 65535 ∧ 0 ≤ f.v.k ∧ f.v.k ≤ 5 := by
  obtain ⟨h1, h2, h3⟩ := can_parts h
  have := ok_kind h3
  omega
theorem pay_small {v : Val} (h : Fit v) (hs : v.s.size ≤ 33554432) : (pay v).length ≤ 140737488355328 := by have := pay_le h; omega

theorem ret3 {a b c a' b' c' : Int} (h : a = a') (g : b = b') (k : c = c') : Ending.returned (.tuple #[.int .i64 a, .int .i64 b, .int .i64 c]) = .returned (.tuple #[.int .i64 a', .int .i64 b', .int .i64 c']) := by rw [h, g, k]

set_option maxRecDepth 100000 in
set_option maxHeartbeats 1000000 in
theorem measure_any {w0 w : World} (h : KSt w0 w) {A : Option Addr} {l : List Fd} (c : Nat) (hA : FRow w w.heap.size A l) (hg : Good l) (hl : Light l) :
    Calls Tryd.prog 32 #[.slice A l.length c] w fun e w' => e = .returned (.tuple #[.int .i64 (cat l), .int .i64 (csz l), .int .i64 (cer l)]) ∧ Below w.heap.size w w' := by
  obtain ⟨a, ha⟩ : ∃ a, cat l = a := ⟨_, rfl⟩
  obtain ⟨b, hb⟩ : ∃ b, csz l = b := ⟨_, rfl⟩
  obtain ⟨d, hd⟩ : ∃ d, cer l = d := ⟨_, rfl⟩
  rw [ha, hb, hd]
  have HR := Lib.hid (And.intro ha (And.intro hb hd))
  have HG := Lib.hid hg
  have hl0 := hl.len
  have HL := Lib.hid hl
  have HA := Lib.hid hA
  have H0 := Lib.hid h
  clear ha hb hd hg hl hA h
  go_enter Tryd.func32, Tryd.ntmps32
  go_wp2
  go_loopw [3, 5, 10] (fun sz la i wr => ∃ (k z : Nat) (m : Int), sz = .int .i64 z ∧ la = .int .i64 m ∧ i = .int .i64 k ∧ k ≤ l.length ∧ z ≤ 65011712 ∧ Below w.heap.size w wr ∧ Hid (Is 0 (l.take k)) ∧ Hid (m = lastOf 0 (l.take k)) ∧ Hid (z = (enc (l.take k)).length)) (fun _ _ i _ => l.length - (intOf i).toNat)
  case atStart => exact ⟨0, 0, 0, rfl, rfl, rfl, Nat.zero_le _, Nat.zero_le _, Below.refl _ _, by unfold Hid; rw [List.take_zero]; trivial, by unfold Hid; rfl, by unfold Hid; rfl⟩
  case round =>
    obtain ⟨k, z, m, rfl, rfl, rfl, hk, hz, hB, HI, HM, HZ⟩ := hrel
    by_cases hlt : k < l.length
    · obtain ⟨f, hf⟩ : ∃ f, l[k]? = some f := ⟨l[k], List.getElem?_eq_getElem hlt⟩
      obtain ⟨g, o, rfl, hgB, hcs⟩ := (HA.out.below hB).at_ (by omega)
      obtain ⟨c0, c1, c2, c3⟩ := hcs k f hf
      obtain ⟨hfit, hsz⟩ := HG.out.at_ hf
      clear hcs
      have hK : KSt w wr := (H0.out.self).then_ hB
      have hK1 := hK.new (.cells (ffC f) 41)
      have hB1 : Below w.heap.size w (wr.alloc (.cells (ffC f) 41)) := hB.alloc hB.size _
      have cc := can_any hK1 f m hfit hsz
      by_cases hc : canF f m = true
      · have hm0 : 0 ≤ m := by rw [HM.out]; exact last_nn HI.out
        obtain ⟨t0, t1, k0, k1⟩ := can_key hc hm0
        obtain ⟨n1, n2, n3⟩ := go_on hf HI.out (by rw [← HM.out]; exact hc) hfit
        have hsm := enc_small HG.out HL.out (k + 1) n1
        have hpy := pay_small hfit (Nat.le_trans (texts_mem (List.mem_of_getElem? hf)) HL.out.txt)
        have cs := fun {W : World} (q : KVars W) => fsize_any q f hfit t0 t1 k0 k1 hpy
        rw [hc] at cc
        rw [n3, ← HZ.out] at hsm
        rw [← HZ.out] at n3
        have HN := Lib.hid (And.intro n1 (And.intro n2 n3))
        obtain ⟨N, hN⟩ : ∃ N, (fb f).length = N := ⟨_, rfl⟩
        simp only [hN] at cs hsm HN
        clear n1 n2 n3 hc hN hfit hsz hm0 t0 t1 k0 k1 hpy hf
        obtain ⟨t, v⟩ := f
        obtain ⟨vk, vn, vs⟩ := v
        unfold ffC at cc cs hK1 hB1
        dsimp only at c0 c1 c2 c3 cc cs hK1 hB1
        go_wp2_with (go_at_call 41; refine cc.mono ?_; rintro e w1 ⟨rfl, hb1⟩; obtain ⟨hc1, _⟩ := Below.cells hb1; have hz1 : wr.heap.size < w1.heap.size := (by have := hb1.size; simp at this; omega))
        go_wp2_with (go_at_call 47; refine (cs (hK1.then_ hb1).k).mono ?_; rintro e w2 ⟨rfl, hb2⟩; obtain ⟨hc2, _⟩ := Below.cells hb2)
        go_roundw
        case rel => exact ⟨k + 1, z + N, t, by go_num, rfl, by go_num, by omega, by omega, hB1.trans ((Below.both hb1 hb2).mono hB1.size), HN.out.1, HN.out.2.1.symm, HN.out.2.2.symm⟩
        case measure => simp [intOf]; omega
      · have hc' : canF f m = false := by simpa using hc
        obtain ⟨r1, r2, r3, _⟩ := cer_bad hf HI.out (by rw [← HM.out]; exact hc')
        have HQ : Hid (a = k ∧ b = 0 ∧ d = 1) := ⟨HR.out.1.symm.trans r2, HR.out.2.1.symm.trans r3, HR.out.2.2.symm.trans r1⟩
        rw [hc'] at cc
        clear r1 r2 r3 hc hc' hfit hsz hf
        obtain ⟨t, v⟩ := f
        obtain ⟨vk, vn, vs⟩ := v
        unfold ffC at cc hK1 hB1
        dsimp only at c0 c1 c2 c3 cc hK1 hB1
        go_wp2_with (go_at_call 41; refine cc.mono ?_; rintro e w1 ⟨rfl, hb1⟩)
        go_ret3
        exact ⟨ret3 HQ.out.1.symm HQ.out.2.1.symm HQ.out.2.2.symm, hB1.trans (hb1.mono hB1.size)⟩
    · obtain rfl : k = l.length := by omega
      rw [List.take_length] at HI HM HZ
      by_cases hlong : 16777215 < z
      · obtain ⟨r1, r2, r3, _⟩ := cer_long HI.out (by rw [← HZ.out]; exact hlong)
        have HQ : Hid (a = 0 ∧ b = 0 ∧ d = 2) := ⟨HR.out.1.symm.trans r2, HR.out.2.1.symm.trans r3, HR.out.2.2.symm.trans r1⟩
        clear r1 r2 r3
        go_wp2
        go_ret3
        exact ⟨ret3 HQ.out.1.symm HQ.out.2.1.symm HQ.out.2.2.symm, hB⟩
      · obtain ⟨r1, r2, r3, _⟩ := cer_ok HI.out (by rw [← HZ.out]; omega)
        have HQ : Hid (a = 0 ∧ b = z ∧ d = 0) := ⟨HR.out.1.symm.trans r2, HR.out.2.1.symm.trans (r3.trans (by rw [← HZ.out])), HR.out.2.2.symm.trans r1⟩
        clear r1 r2 r3
        go_wp2
        go_ret3
        exact ⟨ret3 HQ.out.1.symm HQ.out.2.1.symm HQ.out.2.2.symm, hB⟩

set_option maxRecDepth 100000 in
set_option maxHeartbeats 1000000 in
theorem check_any {w0 w : World} (h : KSt w0 w) {A : Option Addr} {l : List Fd} (c : Nat) (hA : FRow w w.heap.size A l) (hg : Good l) (hl : Light l) :
    Calls Tryd.prog 14 #[.slice A l.length c] w fun e w' => e = .returned (.tuple #[.int .i64 (cat l), .int .i64 (cer l)]) ∧ Below w.heap.size w w' := by
  have cm := measure_any h c hA hg hl
  obtain ⟨a, ha⟩ : ∃ a, cat l = a := ⟨_, rfl⟩
  obtain ⟨b, hb⟩ : ∃ b, csz l = b := ⟨_, rfl⟩
  obtain ⟨d, hd⟩ : ∃ d, cer l = d := ⟨_, rfl⟩
  rw [ha, hb, hd] at cm
  rw [ha, hd]
  clear ha hb hd hA hg hl h
  go_enter Tryd.func14, Tryd.ntmps14
  go_wp2_with (go_at_call 32; refine cm.mono ?_; rintro e w1 ⟨rfl, hb1⟩)
  go_ret2
  exact ⟨rfl, hb1⟩
set_option maxRecDepth 100000 in
set_option maxHeartbeats 1000000 in
theorem size5_any {w0 w : World} (h : KSt w0 w) {A : Option Addr} {l : List Fd} (c : Nat) (hA : FRow w w.heap.size A l) (hg : Good l) (hl : Light l) :
    Calls Tryd.prog 18 #[.slice A l.length c] w fun e w' => e = .returned (.tuple #[.int .i64 (csz l), .int .i64 (cer l)]) ∧ Below w.heap.size w w' := by
  have cm := measure_any h c hA hg hl
  obtain ⟨a, ha⟩ : ∃ a, cat l = a := ⟨_, rfl⟩
  obtain ⟨b, hb⟩ : ∃ b, csz l = b := ⟨_, rfl⟩
  obtain ⟨d, hd⟩ : ∃ d, cer l = d := ⟨_, rfl⟩
  rw [ha, hb, hd] at cm
  rw [hb, hd]
  clear ha hb hd hA hg hl h
  go_enter Tryd.func18, Tryd.ntmps18
  go_wp2_with (go_at_call 32; refine cm.mono ?_; rintro e w1 ⟨rfl, hb1⟩)
  go_ret2
  exact ⟨rfl, hb1⟩
end Go.Proofs.YthekbefbhjllnaaDoor
