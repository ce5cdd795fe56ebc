/- The walk of VarintOne. -/
import Derived.Test.YtbnlglcjamifpaaVarTakes
import Derived.Test.YtbnlglcjamifpaaBytApp
import Derived.Deep.RegionHeld3
namespace Go.Proofs.Ytbnlglcjamifpaa
open Go.RowKit
open Go.Lib (byteCells uvarint)

theorem take_is {w : World} {B n : Nat} {A : Option Addr} {l : List UInt8} (c : Nat) (hn : Hid (n = l.length)) (h : Byt w B A l) (hm : n ≤ 140737488355328) {x y e : Int} (H : Hid ((tkX l : Int) = x ∧ (tkN l : Int) = y ∧ (tkE l : Int) = e)) :
    Calls Try.prog 20 #[.slice A n c] w fun e' w' => e' = .returned (.tuple #[.int .u64 x, .int .i64 y, .int .i64 e]) ∧ w = w' := by
  have := take_at c hn h hm
  rw [H.out.1, H.out.2.1, H.out.2.2] at this
  exact this

/-- what is appended to nothing, and then some -/
theorem app_all {w : World} {A B : Option Addr} {b m : List UInt8} (c d : Nat) (hA : Byt w w.heap.size A b) (hB : Byt w w.heap.size B m) (r : List UInt8) (hr : r = b ++ m) (hm : r.length ≤ 140737488355328) :
    ∃ A1 c1 w1 A2 c2 w2, (Builtin.append_ #[22, 22] 22 #[.slice none 0 0, .slice A b.length c]).run Try.prog w = .ok (.slice A1 b.length c1) w1 ∧
      (Builtin.append_ #[22, 22] 22 #[.slice A1 b.length c1, .slice B m.length d]).run Try.prog w1 = .ok (.slice A2 r.length c2) w2 ∧
      Byt w2 w2.heap.size A2 r ∧ Below w.heap.size w w2 := by
  obtain ⟨i0, hi, hz0, hz1, hz2⟩ := info_parts infoB
  have hrl : r.length = b.length + m.length := by rw [hr, List.length_append]
  obtain ⟨A1, c1, w1, h1, o1, b1⟩ := run_append_byt w.heap.size 22 22 5 i0 _ Try.underlying22 hi hz0 hz1 hz2 rfl 0 c (OwnB.nil w w.heap.size 5) hA b rfl (by omega) (Nat.le_refl _)
  obtain ⟨A2, c2, w2, h2, o2, b2⟩ := run_append_byt w.heap.size 22 22 5 i0 _ Try.underlying22 hi hz0 hz1 hz2 rfl c1 d o1 (hB.below b1) r hr (by omega) b1.size
  exact ⟨A1, c1, w1, A2, c2, w2, h1, h2, o2.reads, b1.trans b2⟩

theorem Below.undrew {a b : World} (h : Below a.drew.heap.size a.drew b) : Below a.heap.size a b := ⟨h.os, h.tape, h.output, h.size, h.block⟩

set_option maxRecDepth 100000 in
set_option maxHeartbeats 1000000 in
theorem one_ok {w : World} {A B : Option Addr} {b m : List UInt8} (c d : Nat) (hA : Byt w w.heap.size A b) (hB : Byt w w.heap.size B m) (hc : b.length ≤ c) (hb : ¬ 1048576 < b.length) (hm : ¬ 1048576 < m.length)
    (n : Nat) (hs : stops 0 b = (n, 0)) :
    Calls Try.prog 6 #[.slice A b.length c, .slice B m.length d] w (Yes w) := by
  obtain ⟨N, hN, hN1, hNl, hN10, htk, hlt, _⟩ := stops_ok b 0 n (by omega) hs
  obtain rfl : n = N := by omega
  obtain ⟨r, hr⟩ : ∃ r, r = b ++ m := ⟨_, rfl⟩
  have hrl : r.length = b.length + m.length := by rw [hr, List.length_append]
  have hmore := stops_more b 0 m (by rw [hs]; simp)
  rw [← hr, hs] at hmore
  obtain ⟨X, hX⟩ : ∃ X : Nat, X = val (b.take n) := ⟨_, rfl⟩
  have hXr : val (r.take n) = X := by rw [hX, hr, List.take_append_of_le_length hNl]
  have T1 : Hid ((tkX b : Int) = (X : Int) ∧ (tkN b : Int) = n ∧ (tkE b : Int) = 0) := by
    unfold tkX tkN tkE; rw [hs, hX]; exact ⟨rfl, rfl, rfl⟩
  have T2 : Hid ((tkX r : Int) = (X : Int) ∧ (tkN r : Int) = n ∧ (tkE r : Int) = 0) := by
    unfold tkX tkN tkE; rw [hmore]; exact ⟨by rw [← hXr], rfl, rfl⟩
  rw [← hX] at htk hlt
  have HX : Hid (X ≤ 18446744073709551615) := by
    unfold Hid
    simp only [Nat.pow_zero, Nat.mul_one] at hlt
    omega
  have HU := Lib.hid htk
  have hcut := run_cut_h (P := Try.prog) Try.underlying22 sizeB A b.length c n (by omega)
  have HR := Lib.hid hr
  have hbr : r.length ≤ 2097152 := by omega
  have hn0 : 0 < n := by omega
  have hle : n ≤ b.length := hNl
  clear hs hmore hX hXr htk hlt hr hrl hN hN1 hNl
  go_enter Try.func6, Try.ntmps6
  go_wp2_with fail
  refine (lives_any _).mono ?_
  rintro e w1 ⟨rfl, hB1⟩
  obtain ⟨A1, c1, w2, A2, c2, w3, ha1, ha2, hA2, hB3⟩ := app_all c d (hA.then_ hB1) (hB.then_ hB1) r HR.out (by omega)
  have HA1 := Lib.hid ha1
  have HA2 := Lib.hid ha2
  clear ha1 ha2
  go_wp2_with fail
  refine (take_is _ rfl (hA.then_ hB1) (by omega) T1).mono ?_
  rintro e w4 ⟨rfl, rfl⟩
  go_wp2_with (first
    | (at_builtin; refine wpList_append_run rfl (.tmp 32) (.tmp 33) _ rfl rfl rfl HA1.out ?_)
    | (at_builtin; refine wpList_append_run rfl (.tmp 35) (.tmp 36) _ rfl rfl rfl HA2.out ?_))
  refine (take_is _ rfl hA2 (by omega) T2).mono ?_
  rintro e w4 ⟨rfl, rfl⟩
  have hcutb : Byt w3 w3.heap.size A (uvarint X) := by
    rw [HU.out.symm]
    exact ((hA.then_ hB1).then_ hB3).take n
  have HL : Hid (n = (uvarint X).length) := by
    have := congrArg List.length HU.out
    rw [List.length_take] at this
    unfold Hid; omega
  have hz3 := hB1.size
  have hz4 := hB3.size
  have q1 : (0 : Int) ≤ (n : Int) := by omega
  have q2 : (n : Int) ≤ (c : Int) := by omega
  have g1 : decide ((1 : Int) ≤ (n : Int)) = true := by simp; omega
  have g2 : decide ((n : Int) ≤ 10) = true := by simp; omega
  have g3 : decide (n ≤ b.length) = true := by simp; omega
  have g4 : decide ((n : Int) ≤ (b.length : Int)) = true := by simp; omega
  go_wp2_with fail
  go_region_held3 (fun _ => True) (exact trivial) (first
    | (go_at_call 11; refine (put_nil _ _ HX.out).mono ?_; rintro e w5 ⟨g, cap, rfl, hown, hB5⟩)
    | (go_at_call 10; refine (alike_same _ _ rfl HL (NewRow.reads hown) (Byt.then_ (w := w3.drew) hcutb hB5)).mono ?_; rintro e w6 ⟨rfl, rfl⟩))
  go_wp2
  go_ret
  exact ⟨rfl, Below.both hB1 (Below.both hB3 (Below.undrew hB5))⟩

set_option maxRecDepth 100000 in
set_option maxHeartbeats 1000000 in
theorem one_bad {w : World} {A B : Option Addr} {b m : List UInt8} (c d : Nat) (hA : Byt w w.heap.size A b) (hB : Byt w w.heap.size B m) (hb : ¬ 1048576 < b.length) (hm : ¬ 1048576 < m.length)
    (hs : stops 0 b = (0, 3)) :
    Calls Try.prog 6 #[.slice A b.length c, .slice B m.length d] w (Yes w) := by
  obtain ⟨r, hr⟩ : ∃ r, r = b ++ m := ⟨_, rfl⟩
  have hrl : r.length = b.length + m.length := by rw [hr, List.length_append]
  have hmore := stops_more b 0 m (by rw [hs]; simp)
  rw [← hr, hs] at hmore
  have T1 : Hid ((tkX b : Int) = 0 ∧ (tkN b : Int) = 0 ∧ (tkE b : Int) = 3) := by
    unfold tkX tkN tkE; rw [hs]; exact ⟨rfl, rfl, rfl⟩
  have T2 : Hid ((tkX r : Int) = 0 ∧ (tkN r : Int) = 0 ∧ (tkE r : Int) = 3) := by
    unfold tkX tkN tkE; rw [hmore]; exact ⟨rfl, rfl, rfl⟩
  have h2 : 2 ≤ b.length := by have := stops_bad b 0 (by omega) hs; omega
  have hbr : r.length ≤ 2097152 := by omega
  have HR := Lib.hid hr
  clear hs hmore hr hrl
  go_enter Try.func6, Try.ntmps6
  go_wp2_with fail
  refine (lives_any _).mono ?_
  rintro e w1 ⟨rfl, hB1⟩
  obtain ⟨A1, c1, w2, A2, c2, w3, ha1, ha2, hA2, hB3⟩ := app_all c d (hA.then_ hB1) (hB.then_ hB1) r HR.out (by omega)
  have HA1 := Lib.hid ha1
  have HA2 := Lib.hid ha2
  clear ha1 ha2
  go_wp2_with fail
  refine (take_is _ rfl (hA.then_ hB1) (by omega) T1).mono ?_
  rintro e w4 ⟨rfl, rfl⟩
  go_wp2_with (first
    | (at_builtin; refine wpList_append_run rfl (.tmp 32) (.tmp 33) _ rfl rfl rfl HA1.out ?_)
    | (at_builtin; refine wpList_append_run rfl (.tmp 35) (.tmp 36) _ rfl rfl rfl HA2.out ?_))
  refine (take_is _ rfl hA2 (by omega) T2).mono ?_
  rintro e w4 ⟨rfl, rfl⟩
  go_wp2_with fail
  go_ret
  exact ⟨rfl, Below.both hB1 hB3⟩

/-- what is appended to an empty list, and then the byte 1 -/
theorem app_one {w : World} {A : Option Addr} {b : List UInt8} (c : Nat) (hA : Byt w w.heap.size A b) (hm : b.length ≤ 1048576) :
    ∃ A1 c1 w1 A2 c2 w2, (Builtin.append_ #[22, 22] 22 #[.slice (some ⟨w.heap.size, 0, none⟩) 0 0, .slice A b.length c]).run Try.prog (w.alloc (.cells #[] 5)) = .ok (.slice A1 b.length c1) w1 ∧
      (Builtin.append_ #[22, 22] 22 #[.slice A1 b.length c1, .slice (some ⟨w1.heap.size, 0, none⟩) 1 1]).run Try.prog (w1.alloc (.cells #[.int .u8 1] 5)) = .ok (.slice A2 (b.length + 1) c2) w2 ∧
      Byt w2 w2.heap.size A2 (b ++ [1]) ∧ Below w.heap.size w w2 := by
  obtain ⟨i0, hi, hz0, hz1, hz2⟩ := info_parts infoB
  have ho : OwnB (w.alloc (.cells #[] 5)) w.heap.size 5 (some ⟨w.heap.size, 0, none⟩) 0 [] := World.ownsRow_made w #[] 0 (Nat.le_refl _) (by simp [maxLen]) rfl
  have hal := (Below.refl w.heap.size w).alloc (Nat.le_refl _) (.cells #[] 5)
  obtain ⟨A1, c1, w1, h1, o1, b1⟩ := run_append_byt w.heap.size 22 22 5 i0 _ Try.underlying22 hi hz0 hz1 hz2 rfl 0 c ho (hA.below hal) b rfl (by omega) (by simp)
  have hb1 : Below w.heap.size w w1 := hal.trans b1
  obtain ⟨A2, c2, w2, h2, o2, b2⟩ := run_append_byt (w := w1.alloc (.cells #[.int .u8 1] 5)) w.heap.size 22 22 5 i0 _ Try.underlying22 hi hz0 hz1 hz2 rfl c1 1 (World.ownsRow.alloc o1 _)
    (Byt.made w1 #[.int .u8 1] [1] rfl 5) (b ++ [1]) rfl (by simp; omega) (by have := hb1.size; simp; omega)
  rw [List.length_append] at h2
  exact ⟨A1, c1, w1, A2, c2, w2, h1, h2, o2.reads, (hb1.alloc hb1.size _).trans b2⟩

theorem take_high (b : List UInt8) (k : Nat) (h9 : b.length ≤ 9) (h : ∀ c ∈ b, 128 ≤ c.toNat) : stops 0 (b.take k) = (0, 5) :=
  stops_high_short _ (by simp; omega) fun c hc => h c (List.mem_of_mem_take hc)

set_option maxRecDepth 100000 in
set_option maxHeartbeats 1000000 in
theorem one_short {w : World} {A B : Option Addr} {b m : List UInt8} (c d : Nat) (hA : Byt w w.heap.size A b) (hB : Byt w w.heap.size B m) (hc : b.length ≤ c) (hb : ¬ 1048576 < b.length) (hm : ¬ 1048576 < m.length)
    (hs : stops 0 b = (0, 5)) :
    Calls Try.prog 6 #[.slice A b.length c, .slice B m.length d] w (Yes w) := by
  obtain ⟨r, hr⟩ : ∃ r, r = b ++ m := ⟨_, rfl⟩
  have hrl : r.length = b.length + m.length := by rw [hr, List.length_append]
  have hsh := stops_short b 0 (by omega) (by rw [hs])
  have h9 : b.length ≤ 9 := by omega
  have hhigh := Lib.hid hsh.2
  have T1 : Hid ((tkX b : Int) = 0 ∧ (tkN b : Int) = 0 ∧ (tkE b : Int) = 5) := by
    unfold tkX tkN tkE; rw [hs]; exact ⟨rfl, rfl, rfl⟩
  have TK : ∀ k, Hid ((tkX (b.take k) : Int) = 0 ∧ (tkN (b.take k) : Int) = 0 ∧ (tkE (b.take k) : Int) = 5) := by
    intro k
    unfold tkX tkN tkE; rw [take_high b k h9 hsh.2]; exact ⟨rfl, rfl, rfl⟩
  have T3 : Hid ((tkX (b ++ [1]) : Int) = (val ((b ++ [1]).take (b.length + 1)) : Nat) ∧ (tkN (b ++ [1]) : Int) = (b.length : Int) + 1 ∧ (tkE (b ++ [1]) : Int) = 0) := by
    unfold tkX tkN tkE; rw [stops_high_one b h9 hsh.2]; exact ⟨rfl, rfl, rfl⟩
  have HTK := Lib.hid TK
  have hbr : r.length ≤ 2097152 := by omega
  have HR := Lib.hid hr
  clear hs hr hrl hsh TK
  go_enter Try.func6, Try.ntmps6
  go_wp2_with fail
  refine (lives_any _).mono ?_
  rintro e w1 ⟨rfl, hB1⟩
  obtain ⟨A1, c1, w2, A2, c2, w3, ha1, ha2, hA2, hB3⟩ := app_all c d (hA.then_ hB1) (hB.then_ hB1) r HR.out (by omega)
  have HA1 := Lib.hid ha1
  have HA2 := Lib.hid ha2
  clear ha1 ha2
  go_wp2_with fail
  refine (take_is _ rfl (hA.then_ hB1) (by omega) T1).mono ?_
  rintro e w4 ⟨rfl, rfl⟩
  go_wp2_with (first
    | (at_builtin; refine wpList_append_run rfl (.tmp 32) (.tmp 33) _ rfl rfl rfl HA1.out ?_)
    | (at_builtin; refine wpList_append_run rfl (.tmp 35) (.tmp 36) _ rfl rfl rfl HA2.out ?_))
  refine (take_at _ rfl hA2 (by omega)).mono ?_
  rintro e w4 ⟨rfl, rfl⟩
  have hBw := Below.both hB1 hB3
  clear HA1 HA2 hA2 hB1 hB3
  go_wp2_with fail
  go_loopw [12] (fun i wr => ∃ k : Nat, i = .int .i64 k ∧ k ≤ b.length ∧ Below w.heap.size w wr) (fun i _ => b.length - (intOf i).toNat)
  case atStart => exact ⟨0, rfl, Nat.zero_le _, hBw⟩
  case round =>
    clear hBw
    obtain ⟨k, rfl, hk, hBr⟩ := hrel
    by_cases hlt : k < b.length
    · obtain ⟨g, o, rfl, hg, hcl⟩ := (hA.below hBr).at_ (by omega)
      have hck := hcl k hlt
      have hge : 128 ≤ b[k].toNat := hhigh.out _ (List.getElem_mem hlt)
      have hge8 := b[k].toNat_lt
      have hTk := HTK.out k
      have hcut := run_cut_h (P := Try.prog) Try.underlying22 sizeB (some ⟨g, o, none⟩) b.length c k (by omega)
      have hBt := (hA.below hBr).take k
      have HLk : Hid (k = (b.take k).length) := by unfold Hid; rw [List.length_take]; omega
      clear hcl
      go_wp2_with fail
      refine (take_is _ HLk hBt (by omega) hTk).mono ?_
      rintro e w4 ⟨rfl, rfl⟩
      go_wp2_with fail
      go_roundw
      case rel => exact ⟨k + 1, by go_num, by omega, hBr⟩
      case measure => simp [intOf]; omega
    · obtain ⟨A5, c5, w5, A6, c6, w6, ha5, ha6, hA6, hB6⟩ := app_one c (hA.then_ hBr) (by omega)
      have HA5 := Lib.hid ha5
      have HA6 := Lib.hid ha6
      have HL1 : Hid (b.length + 1 = (b ++ [1]).length) := by unfold Hid; rw [List.length_append]; rfl
      clear ha5 ha6
      go_wp2_with (first
        | (at_builtin; refine wpList_append_run rfl (.tmp 144) (.tmp 145) _ rfl rfl rfl HA5.out ?_)
        | (at_builtin; refine wpList_append_run rfl (.tmp 147) (.tmp 148) _ rfl rfl rfl HA6.out ?_))
      refine (take_is _ HL1 hA6 (by omega) T3).mono ?_
      rintro e w7 ⟨rfl, rfl⟩
      go_wp2_with fail
      go_ret
      exact ⟨rfl, hBr.trans (hB6.mono hBr.size)⟩
end Go.Proofs.Ytbnlglcjamifpaa
