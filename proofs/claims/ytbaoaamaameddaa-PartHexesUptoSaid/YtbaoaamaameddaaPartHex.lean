/- The walks of Hex, the code's. -/
import Derived.Test.YtbaoaamaameddaaPartDig
import Derived.Laws.MakeOwn
namespace Go.Proofs.Ytbaoaamaameddaa
open Go.RowKit
open Go.Lib (byteCells)

theorem run_mk0 (n : Nat) (hn : n ≤ 140737488355328) (W : World) : (Instr.makeSlice 39 (.int .i64 0) (.int .i64 (n : Int))).run Try.prog W =
    .ok (.slice (some ⟨W.heap.size, 0, none⟩) 0 n) (W.alloc (.cells (Array.replicate n (.int .u8 0)) 5)) := by
  obtain ⟨i0, hi, hz0, hz1, hz2⟩ := info_parts infoB
  have h := run_make (P := Try.prog) W 39 5 i0 _ Try.underlying39 hi hz0 .i64 .i64 (0 : Int) (n : Int) (by omega) (by omega) (by rw [hz2]; omega) (by omega)
  rw [hz1] at h
  simp only [Int.toNat_natCast, Nat.mul_one] at h
  rw [show ((0 : Int).toNat) = 0 from rfl] at h
  rw [h]
  congr 3
  apply Array.toList_inj.1
  rw [Array.toList_replicate]
  exact toList_madeCells_one _ _
theorem own_mk0 (W : World) (n : Nat) (hn : n ≤ 140737488355328) (base : Nat) (hb : base ≤ W.heap.size) : OwnB (W.alloc (.cells (Array.replicate n (.int .u8 0)) 5)) base 5 (some ⟨W.heap.size, 0, none⟩) n [] := by
  refine ⟨rfl, .inr ⟨W.heap.size, n, _, rfl, hb, heap_alloc_new W _, by simp, by simp only [maxLen]; omega, by simp, by simp [byteCells]⟩⟩

/-- the digits read so far, and those that are left -/
def Dec (s : ByteArray) (k : Nat) (pre : List UInt8) : Prop := hexL (ls s) = (hexL ((ls s).drop k)).map fun t => pre ++ t
theorem dec_start (s : ByteArray) : Dec s 0 [] := by unfold Dec; rw [List.drop_zero]; cases hexL (ls s) <;> rfl
theorem dec_end {s : ByteArray} {k : Nat} {pre : List UInt8} (h : Dec s k pre) (hk : s.size ≤ k) : hexL (ls s) = some pre := by
  unfold Dec at h
  rw [h, List.drop_eq_nil_of_le (by rw [ls_size]; exact hk)]
  simp [hexL]
theorem dec_bad {s : ByteArray} {k : Nat} {pre : List UInt8} (h : Dec s k pre) (hk : k + 1 < s.size) {a b : UInt8} (ha : s[k]'(by omega) = a) (hb : s[k + 1] = b) (hd : dv a.toNat = 16 ∨ dv b.toNat = 16) : hexL (ls s) = none := by
  unfold Dec at h
  have ha' : (ls s)[k]'(by rw [ls_size]; omega) = a := ha
  have hb' : (ls s)[k + 1]'(by rw [ls_size]; omega) = b := hb
  rw [h, hexL_drop (ls s) k (by rw [ls_size]; exact hk), ha', hb', if_pos hd]
  rfl
theorem dec_more {s : ByteArray} {k : Nat} {pre : List UInt8} (h : Dec s k pre) (hk : k + 1 < s.size) {a b : UInt8} (ha : s[k]'(by omega) = a) (hb : s[k + 1] = b) (hd : ¬ (dv a.toNat = 16 ∨ dv b.toNat = 16)) : Dec s (k + 2) (pre ++ [UInt8.ofNat (16 * dv a.toNat + dv b.toNat)]) := by
  unfold Dec at h ⊢
  have ha' : (ls s)[k]'(by rw [ls_size]; omega) = a := ha
  have hb' : (ls s)[k + 1]'(by rw [ls_size]; omega) = b := hb
  rw [h, hexL_drop (ls s) k (by rw [ls_size]; exact hk), ha', hb', if_neg hd, Option.map_map]
  congr 1
  funext t
  simp

theorem own_byt {w : World} {base : Nat} {e : TypeId} {A : Option Addr} {c : Nat} {l : List UInt8} (h : OwnB w base e A c l) (n : Nat) :
    (convert 39 9 (.slice A l.length n)).run Try.prog w = .ok (.string (str l)) w :=
  run_str h.reads 39 5 9 Try.underlying39 Try.underlying5 Try.underlying9 n

/-- two digits as a byte, as the code puts them together -/
theorem two_digits (a b : Nat) (ha : a < 16) (hb : b < 16) : bits .or .u8 ((a : Int) * 16) (b : Int) = ((16 * a + b : Nat) : Int) := by
  have : ∀ a : Fin 16, ∀ b : Fin 16, bits .or .u8 (((a : Nat) : Int) * 16) ((b : Nat) : Int) = ((16 * (a : Nat) + (b : Nat) : Nat) : Int) := by decide
  exact this ⟨a, ha⟩ ⟨b, hb⟩

set_option maxRecDepth 100000 in
set_option maxHeartbeats 2000000 in
theorem hex_any {w : World} (s : ByteArray) (hs : s.size ≤ 140737488355328) :
    Calls Try.prog 20 #[.string s] w fun e w' => e = .returned (.tuple #[.string (hexT s), .int .i64 (hexE s)]) ∧ Below w.heap.size w w' := by
  obtain ⟨T, hT⟩ : ∃ T, hexT s = T := ⟨_, rfl⟩
  obtain ⟨E, hE⟩ : ∃ E, hexE s = E := ⟨_, rfl⟩
  rw [hT, hE]
  have HT := Lib.hid hT
  have HE := Lib.hid hE
  have bad : hexL (ls s) = none → Hid (T = ByteArray.empty ∧ E = 111) := fun h => by
    obtain ⟨a, b⟩ := hex_none h
    exact ⟨HT.out.symm.trans a, HE.out.symm.trans b⟩
  have good : ∀ t, hexL (ls s) = some t → Hid (T = str t ∧ E = 0) := fun t h => by
    obtain ⟨a, b⟩ := hex_some h
    exact ⟨HT.out.symm.trans a, HE.out.symm.trans b⟩
  have BAD := Lib.hid bad
  have GOOD := Lib.hid good
  clear hT hE bad good HT HE
  by_cases hodd : s.size % 2 = 0
  · have q0 : (s.size : Int) % 2 = 0 := by omega
    have hmk := run_mk0 (s.size / 2) (by omega)
    rw [show ((s.size / 2 : Nat) : Int) = (s.size : Int) / 2 from rfl] at hmk
    have hown := own_mk0 w (s.size / 2) (by omega) w.heap.size (Nat.le_refl _)
    go_enter Try.func20, Try.ntmps20
    go_wp2
    clear q0
    go_loopw [4, 5] (fun o v wr => ∃ (k : Nat) (A : Option Addr) (c : Nat) (pre : List UInt8), o = .slice A pre.length c ∧ v = .int .i64 k ∧ k ≤ s.size ∧ k % 2 = 0 ∧ pre.length ≤ k ∧ Hid (OwnB wr w.heap.size 5 A c pre) ∧ Hid (Dec s k pre) ∧ Below w.heap.size w wr) (fun _ v _ => s.size - (intOf v).toNat)
    case atStart => exact ⟨0, _, _, [], rfl, rfl, Nat.zero_le _, rfl, Nat.le_refl _, hown, dec_start s, (Below.refl _ w).alloc (Nat.le_refl _) _⟩
    case round =>
      obtain ⟨k, A, c, pre, rfl, rfl, hk, hk2, hpk, HO, HD, hbw⟩ := hrel
      by_cases hlt : k < s.size
      · have hlt1 : k + 1 < s.size := by omega
        have hltz : (k : Int) < (s.size : Int) := by omega
        have hltz1 : (k : Int) + 1 < (s.size : Int) := by omega
        obtain ⟨x, hx⟩ : ∃ x, s[k]'hlt = x := ⟨_, rfl⟩
        obtain ⟨y, hy⟩ : ∃ y, s[k + 1]'hlt1 = y := ⟨_, rfl⟩
        have cx := fun W => digit_any W x.toNat (by have := x.toNat_lt; omega)
        have cy := fun W => digit_any W y.toNat (by have := y.toNat_lt; omega)
        by_cases hd : dv x.toNat = 16 ∨ dv y.toNat = 16
        · have hb := BAD.out (dec_bad HD.out hlt1 hx hy hd)
          obtain ⟨rfl, rfl⟩ := hb.out
          have hbb : dgB x.toNat = false ∨ (dgB x.toNat = true ∧ dgB y.toNat = false) := by
            unfold dgB
            by_cases h : dv x.toNat = 16
            · exact .inl (decide_eq_false fun n => n h)
            · exact .inr ⟨decide_eq_true h, decide_eq_false fun n => n (hd.resolve_left h)⟩
          clear BAD GOOD hb hd
          rcases hbb with hq | ⟨hq, hr⟩
          · rw [hq] at cx
            clear hq
            go_wp2_with (first
              | (go_at_call 26; (with_reducible refine (cx _).mono ?_); rintro e w2 ⟨rfl, rfl⟩)
              | (go_at_call 26; (with_reducible refine (cy _).mono ?_); rintro e w2 ⟨rfl, rfl⟩))
            go_ret2
            exact ⟨rfl, hbw⟩
          · rw [hq] at cx
            rw [hr] at cy
            clear hq hr
            go_wp2_with (first
              | (go_at_call 26; (with_reducible refine (cx _).mono ?_); rintro e w2 ⟨rfl, rfl⟩)
              | (go_at_call 26; (with_reducible refine (cy _).mono ?_); rintro e w2 ⟨rfl, rfl⟩))
            go_ret2
            exact ⟨rfl, hbw⟩
        · have hdx : dv x.toNat ≠ 16 := fun h => hd (.inl h)
          have hdy : dv y.toNat ≠ 16 := fun h => hd (.inr h)
          have hx16 := dv_le x.toNat
          have hy16 := dv_le y.toNat
          have hD2 := dec_more HD.out hlt1 hx hy hd
          have e1 : dgB x.toNat = true := decide_eq_true hdx
          have e2 : dgB y.toNat = true := decide_eq_true hdy
          have e3 : dgN x.toNat = dv x.toNat := if_neg hdx
          have e4 : dgN y.toNat = dv y.toNat := if_neg hdy
          rw [e1, e3] at cx
          rw [e2, e4] at cy
          obtain ⟨p, hp⟩ : ∃ p, dv x.toNat = p := ⟨_, rfl⟩
          obtain ⟨q, hq⟩ : ∃ q, dv y.toNat = q := ⟨_, rfl⟩
          rw [hp] at cx hx16 hdx hD2
          rw [hq] at cy hy16 hdy hD2
          have hp15 : p < 16 := by omega
          have hq15 : q < 16 := by omega
          have hor := two_digits p q hp15 hq15
          obtain ⟨z, hz⟩ : ∃ z, 16 * p + q = z := ⟨_, rfl⟩
          have hz255 : z < 256 := by omega
          rw [hz] at hor hD2
          obtain ⟨r, hr⟩ : ∃ r, r = pre ++ [UInt8.ofNat z] := ⟨_, rfl⟩
          rw [← hr] at hD2
          have hrl : r.length = pre.length + 1 := by rw [hr]; simp
          obtain ⟨A', c', w4, ha, ho4, hb4⟩ := run_app_new HO.out #[.int .u8 (z : Int)] [UInt8.ofNat z] 1 rfl (by simp [byteCells, Nat.mod_eq_of_lt hz255]) 5 r hr (by omega) hbw.size
          have HRL := Lib.hid hrl
          have HA := Lib.hid ha
          have HO4 := Lib.hid ho4
          have HD4 := Lib.hid hD2
          clear BAD GOOD hd hdx hdy hx16 hy16 e1 e2 e3 e4 hp hq hz hr ha ho4 hD2 hrl
          go_wp2_with (first
            | (go_at_call 26; (with_reducible refine (cx _).mono ?_); rintro e w2 ⟨rfl, rfl⟩)
            | (go_at_call 26; (with_reducible refine (cy _).mono ?_); rintro e w2 ⟨rfl, rfl⟩)
            | (at_builtin; refine wpList_append_run rfl (.tmp 45) (.tmp 50) _ rfl rfl rfl HA.out ?_))
          go_roundw
          case rel => exact ⟨k + 2, A', c', r, rfl, by go_num, by omega, by omega, by have := HRL.out; omega, HO4, HD4, hbw.trans hb4⟩
          case measure => simp [intOf]; omega
      · have hg := GOOD.out pre (dec_end HD.out (by omega))
        obtain ⟨rfl, rfl⟩ := hg.out
        have hst := own_byt HO.out c
        clear BAD GOOD hg
        go_wp2
        go_ret2
        exact ⟨rfl, hbw⟩
  · have hb := BAD.out (hexL_odd (by rw [ls_size]; exact hodd))
    obtain ⟨rfl, rfl⟩ := hb.out
    have q0 : (s.size : Int) % 2 = 1 := by omega
    clear BAD GOOD hb
    go_enter Try.func20, Try.ntmps20
    go_wp2
    go_ret2
    exact ⟨rfl, Below.refl _ _⟩
end Go.Proofs.Ytbaoaamaameddaa
