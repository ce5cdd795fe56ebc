/- The walk of PartHexes. -/
import Derived.Test.YtbaoaamaameddaaPartAwake
import Derived.Test.YtbaoaamaameddaaPartHexMem
import Derived.Test.YtbaoaamaameddaaPartHexPure
import Derived.Deep.RegionHeld3
import Derived.Deep.DeepCutAuto
namespace Go.Proofs.Ytbaoaamaameddaa
open Go.RowKit
open Go.Lib (byteCells)

theorem lit_small (p : Nat) (h : p < 16) : (⟨#[48, 49, 50, 51, 52, 53, 54, 55, 56, 57, 97, 98, 99, 100, 101, 102]⟩ : ByteArray)[p]'h = dgt false p := by
  have : ∀ p : Fin 16, (⟨#[48, 49, 50, 51, 52, 53, 54, 55, 56, 57, 97, 98, 99, 100, 101, 102]⟩ : ByteArray)[(p : Nat)]'p.2 = dgt false p := by decide
  exact this ⟨p, h⟩
theorem lit_great (p : Nat) (h : p < 16) : (⟨#[48, 49, 50, 51, 52, 53, 54, 55, 56, 57, 65, 66, 67, 68, 69, 70]⟩ : ByteArray)[p]'h = dgt true p := by
  have : ∀ p : Fin 16, (⟨#[48, 49, 50, 51, 52, 53, 54, 55, 56, 57, 65, 66, 67, 68, 69, 70]⟩ : ByteArray)[(p : Nat)]'p.2 = dgt true p := by decide
  exact this ⟨p, h⟩

theorem wrap_u8 {x : Int} (h0 : 0 ≤ x) (h1 : x ≤ 255) : IntKind.u8.wrap x = x := by
  have h : IntKind.u8.wrap x = x % 256 := rfl
  rw [h]
  omega

theorem hex_enc {w : World} {s : ByteArray} {l : List UInt8} (b : Bool) (hs : s.size ≤ 1048576) (hl : l = encL b (ls s)) :
    Calls Try.prog 20 #[.string (str l)] w fun e w' => e = .returned (.tuple #[.string s, .int .i64 0]) ∧ Below w.heap.size w w' := by
  have h := hex_any (w := w) (str l) (by rw [str_size, hl, encL_len, ls_size]; omega)
  obtain ⟨h1, h2⟩ := hex_some (s := str l) (t := ls s) (by rw [ls_str, hl, hexL_enc])
  rw [h1, h2, str_ls] at h
  exact h
theorem hex_enc1 {w : World} {s : ByteArray} {l : List UInt8} (hs : s.size ≤ 1048576) (hl : l = encL false (ls s)) :
    Calls Try.prog 20 #[.string (str l ++ ⟨#[48]⟩)] w fun e w' => e = .returned (.tuple #[.string ByteArray.empty, .int .i64 111]) ∧ Below w.heap.size w w' := by
  have hz : (str l ++ ⟨#[48]⟩).size = l.length + 1 := by rw [← ls_size, ls_append, List.length_append, ls_str]; rfl
  have h := hex_any (w := w) (str l ++ ⟨#[48]⟩) (by rw [hz, hl, encL_len, ls_size]; omega)
  obtain ⟨h1, h2⟩ := hex_none (s := str l ++ ⟨#[48]⟩) (by rw [ls_append, ls_str, hl]; exact hexL_more false _ _)
  rw [h1, h2] at h
  exact h
theorem hex_spoilt {w : World} {l : List UInt8} (k : Nat) (hk : k < l.length) (o : UInt8) (ho : dv o.toNat = 16) (hs : l.length ≤ 2097152) :
    Calls Try.prog 20 #[.string (str (l.set k o))] w fun e w' => e = .returned (.tuple #[.string ByteArray.empty, .int .i64 111]) ∧ Below w.heap.size w w' := by
  have h := hex_any (w := w) (str (l.set k o)) (by rw [str_size, List.length_set]; omega)
  obtain ⟨h1, h2⟩ := hex_none (s := str (l.set k o)) (by rw [ls_str]; exact hexL_set l k hk o ho)
  rw [h1, h2] at h
  exact h
theorem wrap_u64x (x : Int) : 0 ≤ IntKind.u64.wrap x ∧ IntKind.u64.wrap x ≤ 18446744073709551615 := by
  have h : IntKind.u64.wrap x = x % 18446744073709551616 := rfl
  rw [h]
  omega

set_option maxRecDepth 100000 in
set_option maxHeartbeats 8000000 in
theorem hexes_any {w : World} (h : ML w) (s : ByteArray) (a : Int) (o : UInt8) (hs : s.size ≤ 1048576) :
    Calls Try.prog 8 #[.string s, .int .i64 a, .int .u8 (o.toNat : Nat)] w (Yes w) := by
  have c4 := fun {W : World} {l : List UInt8} => hex_enc (w := W) (s := s) (l := l) false hs
  have c5 := fun {W : World} {l : List UInt8} => hex_enc (w := W) (s := s) (l := l) true hs
  have c6 := fun {W : World} {l : List UInt8} => hex_enc1 (w := W) (s := s) (l := l) hs
  go_enter Try.func8, Try.ntmps8
  go_wp2_with (go_at_call 9; refine (awake_any h).mono ?_; rintro e w1 ⟨rfl, b1⟩; have m1 := h.below b1)
  go_loopw [9, 10, 11] (fun o1 o2 v wr => ∃ (k : Nat) (A1 A2 : Option Addr) (c1 c2 : Nat) (l1 l2 : List UInt8), o1 = .slice A1 l1.length c1 ∧ o2 = .slice A2 l2.length c2 ∧ v = .int .i64 k ∧ k ≤ s.size ∧ Hid (Two w1 wr A1 c1 l1 A2 c2 l2) ∧ Hid (l1 = encL false ((ls s).take k)) ∧ Hid (l2 = encL true ((ls s).take k))) (fun _ _ v _ => s.size - (intOf v).toNat)
  case atStart => exact ⟨0, none, none, 0, 0, [], [], rfl, rfl, rfl, Nat.zero_le _, Two.nil w1, rfl, rfl⟩
  case round =>
    obtain ⟨k, A1, A2, c1, c2, l1, l2, rfl, rfl, rfl, hk, HTwo, HL1, HL2⟩ := hrel
    by_cases hlt : k < s.size
    · have hltz : (k : Int) < (s.size : Int) := by omega
      obtain ⟨x, hx⟩ : ∃ x, s[k]'hlt = x := ⟨_, rfl⟩
      have hx8 := x.toNat_lt
      obtain ⟨p, hp⟩ : ∃ p, x.toNat / 16 = p := ⟨_, rfl⟩
      obtain ⟨q, hq⟩ : ∃ q, x.toNat % 16 = q := ⟨_, rfl⟩
      have hp16 : p < 16 := by omega
      have hq16 : q < 16 := by omega
      have hpi : (x.toNat : Int) / 16 = (p : Int) := by omega
      have hqi : (x.toNat : Int) % 16 = (q : Int) := by omega
      have e1 := lit_small p hp16
      have e2 := lit_small q hq16
      have e3 := lit_great p hp16
      have e4 := lit_great q hq16
      have hwp : IntKind.u8.wrap (p : Int) = (p : Int) := wrap_u8 (by omega) (by omega)
      have hqt : ((x.toNat : Nat) : Int).tmod 16 = (q : Int) := by rw [Int.tmod_eq_emod_of_nonneg (by omega)]; exact hqi
      have hp16i : (p : Int) < 16 := by omega
      have hq16i : (q : Int) < 16 := by omega
      obtain ⟨y1, hy1⟩ : ∃ y, dgt false p = y := ⟨_, rfl⟩
      obtain ⟨y2, hy2⟩ : ∃ y, dgt false q = y := ⟨_, rfl⟩
      obtain ⟨y3, hy3⟩ : ∃ y, dgt true p = y := ⟨_, rfl⟩
      obtain ⟨y4, hy4⟩ : ∃ y, dgt true q = y := ⟨_, rfl⟩
      rw [hy1] at e1
      rw [hy2] at e2
      rw [hy3] at e3
      rw [hy4] at e4
      obtain ⟨r1, hr1⟩ : ∃ r, r = l1 ++ [y1, y2] := ⟨_, rfl⟩
      obtain ⟨r2, hr2⟩ : ∃ r, r = l2 ++ [y3, y4] := ⟨_, rfl⟩
      have hkl : k < (ls s).length := by rw [ls_size]; exact hlt
      have hxl : (ls s)[k]'hkl = x := hx
      have HR1 : Hid (r1 = encL false ((ls s).take (k + 1))) := by
        unfold Hid
        rw [encL_take false (ls s) k hkl, hxl, hp, hq, hy1, hy2, hr1, HL1.out]
      have HR2 : Hid (r2 = encL true ((ls s).take (k + 1))) := by
        unfold Hid
        rw [encL_take true (ls s) k hkl, hxl, hp, hq, hy3, hy4, hr2, HL2.out]
      have hlen1 : r1.length ≤ 4194304 := by rw [HR1.out, encL_len, List.length_take, ls_size]; omega
      have hlen2 : r2.length ≤ 4194304 := by rw [HR2.out, encL_len, List.length_take, ls_size]; omega
      obtain ⟨A3, c3, w3, ha3, ht3⟩ := HTwo.out.append #[.int .u8 y1.toNat, .int .u8 y2.toNat] [y1, y2] 2 rfl (by simp [byteCells]) r1 hr1 (by omega)
      obtain ⟨A4, c4, w4, ha4, ht4⟩ := ht3.swap.append #[.int .u8 y3.toNat, .int .u8 y4.toNat] [y3, y4] 2 rfl (by simp [byteCells]) r2 hr2 (by omega)
      have HA3 := Lib.hid ha3
      have HA4 := Lib.hid ha4
      have HT4 := Lib.hid ht4.swap
      clear hp hq hy1 hy2 hy3 hy4 hr1 hr2 hxl hkl ha3 ha4 ht3 ht4 hlen1 hlen2
      go_upto_region 10 with fail
      go_cut [9] (fun s9 wx => s9 = .slice A3 r1.length c3 ∧ wx = w3)
      case first =>
        go_region_held3 (fun _ => True) (exact trivial) (first | (refine step_append_run rfl (.tmp 30) (.tmp 41) _ rfl rfl rfl HA3.out ?_) | fail)
        all_goals (go_wp2_with fail; go_meet; exact ⟨rfl, rfl⟩)
      case rest =>
        obtain ⟨rfl, rfl⟩ := hcut
        go_upto_region 11 with fail
        go_region_held3 (fun _ => True) (exact trivial) (first | (refine step_append_run rfl (.tmp 43) (.tmp 54) _ rfl rfl rfl HA4.out ?_) | fail)
        all_goals
          clear HA3 HA4
          go_wp2_with fail
          go_roundw
          case rel => exact ⟨k + 1, A3, A4, c3, c4, r1, r2, rfl, rfl, by go_num, by omega, HT4, HR1, HR2⟩
          case measure => simp [intOf]; omega
    · obtain rfl : k = s.size := by omega
      have hl1 : l1 = encL false (ls s) := by rw [HL1.out, List.take_of_length_le (by rw [ls_size]; omega)]
      have hl2 : l2 = encL true (ls s) := by rw [HL2.out, List.take_of_length_le (by rw [ls_size]; omega)]
      have hn1 : l1.length = 2 * s.size := by rw [hl1, encL_len, ls_size]
      have hst1 := own_byt HTwo.out.one c1
      have hst2 := own_byt HTwo.out.two c2
      have nov : ¬ 9223372036854775807 < (str l1).size + 1 := by rw [str_size]; omega
      have d4 := fun {W : World} => c4 (W := W) hl1
      have d5 := fun {W : World} => c5 (W := W) hl2
      have d6 := fun {W : World} => c6 (W := W) hl1
      have HN := Lib.hid hn1
      clear hl1 hl2 hn1 c4 c5 c6 HL1 HL2
      go_upto_region 19 with (first
        | (go_at_call 20; (with_reducible refine d4.mono ?_); rintro e w4 ⟨rfl, b4⟩)
        | (go_at_call 20; (with_reducible refine d5.mono ?_); rintro e w5 ⟨rfl, b5⟩)
        | (go_at_call 20; (with_reducible refine d6.mono ?_); rintro e w6 ⟨rfl, b6⟩))
      have hbw : Below w1.heap.size w1 w6 := HTwo.out.below.trans ((Below.both (Below.both b4 b5) b6).mono HTwo.out.below.size)
      have HT6 := Lib.hid ((HTwo.out.then_ (Below.both (Below.both b4 b5) b6)))
      obtain ⟨n, hn⟩ : ∃ n, o.toNat = n := ⟨_, rfl⟩
      have hn255 : n ≤ 255 := by have := o.toNat_lt; omega
      have HO := Lib.hid hn
      have hdig := dv_digit n
      have HDIG := Lib.hid hdig
      rw [hn]
      clear hdig hn hst1 hst2 d4 d5 d6 nov
      go_cut [18] (fun s18 wx => s18 = .bool (decide (dv n ≠ 16)) ∧ wx = w6)
      case first =>
        go_wp2_with fail
        all_goals
          go_meet
          refine ⟨?_, rfl⟩
          refine congrArg Value.bool (Bool.eq_iff_iff.2 (Iff.trans ?_ (Iff.trans HDIG.out.symm decide_eq_true_iff.symm)))
          first | omega | (simp; done) | (simp; omega)
      case rest =>
        obtain ⟨rfl, rfl⟩ := hcut
        have hbb := Below.both b1 hbw
        clear HDIG
        by_cases hd : dv n = 16
        · rw [show decide (dv n ≠ 16) = false by simp [hd]]
          by_cases h0 : l1.length = 0
          · have h0i : (l1.length : Int) = 0 := by omega
            go_wp2_with fail
            go_ret
            exact ⟨rfl, hbb⟩
          · obtain ⟨z, hz⟩ : ∃ z, IntKind.u64.wrap a = z := ⟨_, rfl⟩
            have hzb := wrap_u64x a
            rw [hz] at hzb
            have h0i : ((l1.length : Int) == 0) = false := beq_eq_false_iff_ne.2 (by omega)
            have h0j : (l1.length : Int) ≠ 0 := by omega
            have hL : l1.length ≤ 2097152 := by have := HN.out; omega
            obtain ⟨j, hj⟩ : ∃ j : Nat, z % (l1.length : Int) = j := Int.eq_ofNat_of_zero_le (Int.emod_nonneg _ (by omega))
            have hjl : j < l1.length := by have := Int.emod_lt_of_pos z (show (0 : Int) < (l1.length : Int) by omega); omega
            have hjli : (j : Int) < (l1.length : Int) := by omega
            obtain ⟨g, rfl, hg, hc, hf, hb⟩ := own_set HT6.out.one j hjl o
            rw [HO.out] at hb
            have hst := run_str (P := Try.prog) hb 39 5 9 Try.underlying39 Try.underlying5 Try.underlying9 c1
            rw [List.length_set] at hst
            have ds := fun {W : World} => hex_spoilt (w := W) j hjl o (by rw [HO.out]; exact hd) hL
            have hset : Below w.heap.size w (wc.setCell ⟨g, j, none⟩ (.int .u8 (n : Nat))) := hbb.setCell (p := ⟨g, j, none⟩) (Nat.le_trans b1.size hg) _
            clear hb hd h0 HT6 HTwo HN
            go_wp2_with (go_at_call 20; refine ds.mono ?_; rintro e w8 ⟨rfl, b8⟩)
            go_ret
            exact ⟨rfl, Below.both hset b8⟩
        · rw [show decide (dv n ≠ 16) = true by simp [hd]]
          clear hd
          by_cases h0 : l1.length = 0
          · have h0i : (l1.length : Int) = 0 := by omega
            go_wp2_with fail
            go_ret
            exact ⟨rfl, hbb⟩
          · have h0i : ((l1.length : Int) == 0) = false := beq_eq_false_iff_ne.2 (by omega)
            go_wp2_with fail
            go_ret
            exact ⟨rfl, hbb⟩
end Go.Proofs.Ytbaoaamaameddaa
