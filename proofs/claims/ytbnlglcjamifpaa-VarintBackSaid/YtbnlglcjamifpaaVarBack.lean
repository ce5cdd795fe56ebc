/- The walk of VarintBack. -/
import Derived.Test.YtbnlglcjamifpaaVarOne
import Derived.Test.YtbnlglcjamifpaaBytOpen
namespace Go.Proofs.Ytbnlglcjamifpaa
open Go.RowKit
open Go.Lib (byteCells uvarint)

/-- the bytes of numbers one behind the other -/
def cat : List Nat → List UInt8
  | [] => []
  | x :: r => uvarint x ++ cat r
theorem cat_append (a b : List Nat) : cat (a ++ b) = cat a ++ cat b := by
  induction a with
  | nil => rfl
  | cons x r ih => rw [List.cons_append, cat, cat, ih, List.append_assoc]
theorem cat_snoc (l : List Nat) (k : Nat) (h : k < l.length) : cat (l.take (k + 1)) = cat (l.take k) ++ uvarint l[k] := by
  rw [List.take_succ_eq_append_getElem h, cat_append]
  simp [cat]
theorem cat_rest (l : List Nat) (k : Nat) (h : k < l.length) : cat l = cat (l.take k) ++ (uvarint l[k] ++ cat (l.drop (k + 1))) := by
  have e := congrArg cat (List.take_append_drop k l)
  rw [cat_append, List.drop_eq_getElem_cons h, cat] at e
  exact e.symm
theorem cat_len (l : List Nat) (h : ∀ n ∈ l, n ≤ 18446744073709551615) : (cat l).length ≤ 10 * l.length := by
  induction l with
  | nil => simp [cat]
  | cons x r ih =>
    rw [cat, List.length_append, List.length_cons]
    have h1 := vsz_le (x := x) (by have := h x (by simp); omega)
    have h2 := ih fun n hn => h n (by simp [hn])
    unfold vsz at h1
    omega

theorem own_weaken {w : World} {B B' : Nat} {A : Option Addr} {c : Nat} {l : List UInt8} (hB : B' ≤ B) (h : OwnB w B 5 A c l) : OwnB w B' 5 A c l := by
  refine ⟨h.1, ?_⟩
  rcases h.2 with h0 | ⟨g, cap, cur, hv, hb, rest⟩
  · exact .inl h0
  · exact .inr ⟨g, cap, cur, hv, by omega, rest⟩

theorem own_cap {w : World} {B : Nat} {A : Option Addr} {c : Nat} {l : List UInt8} (h : OwnB w B 5 A c l) : l.length ≤ c := by
  rcases h.2 with ⟨hv, h0⟩ | ⟨g, cap, cur, hv, hb, hg, hn, rest⟩
  · omega
  · injection hv with _ _ h3
    omega

/-- what Take finds where a number was put -/
theorem take_put (x : Nat) (more : List UInt8) (hx : x ≤ 18446744073709551615) : (tkX (uvarint x ++ more) : Int) = x ∧ (tkN (uvarint x ++ more) : Int) = vsz x ∧ (tkE (uvarint x ++ more) : Int) = 0 := by
  have h := stops_put x 0 more (by omega) (by omega) (fun h => absurd rfl h)
  rw [Nat.zero_add] at h
  unfold tkX tkN tkE
  rw [h]
  refine ⟨?_, rfl, rfl⟩
  unfold vsz
  rw [List.take_left, val_uvarint]

set_option maxRecDepth 100000 in
set_option maxHeartbeats 1000000 in
theorem back_any {w : World} {A B : Option Addr} {l : List Nat} {m : List UInt8} (c d : Nat) (hA : U64s w w.heap.size A l) (hB : Byt w w.heap.size B m) (hl : ∀ n ∈ l, n ≤ 18446744073709551615) (h1 : l.length ≤ 140737488351232) (h2 : m.length ≤ 140737488351232) :
    Calls Try.prog 5 #[.slice A l.length c, .slice B m.length d] w (Yes w) := by
  have HL := Lib.hid hl
  clear hl
  by_cases hb : 1024 < l.length
  · go_enter Try.func5, Try.ntmps5
    go_wp2_with fail
    refine (lives_any _).mono ?_
    rintro e w1 ⟨rfl, hB1⟩
    go_wp2_with fail
    go_ret
    exact ⟨rfl, hB1⟩
  · by_cases hm : 65536 < m.length
    · go_enter Try.func5, Try.ntmps5
      go_wp2_with fail
      refine (lives_any _).mono ?_
      rintro e w1 ⟨rfl, hB1⟩
      go_wp2_with fail
      go_ret
      exact ⟨rfl, hB1⟩
    · clear h1 h2
      go_enter Try.func5, Try.ntmps5
      go_wp2_with fail
      refine (lives_any _).mono ?_
      rintro e w1 ⟨rfl, hB1⟩
      go_wp2_with fail
      go_loopw [5, 6] (fun v i wr => ∃ (k : Nat) (A1 : Option Addr) (c1 : Nat) (pre : List UInt8), v = .slice A1 pre.length c1 ∧ i = .int .i64 k ∧ k ≤ l.length ∧ Hid (pre = cat (l.take k)) ∧ Hid (OwnB wr w.heap.size 5 A1 c1 pre) ∧ Below w.heap.size w wr) (fun _ i _ => l.length - (intOf i).toNat)
      case atStart => exact ⟨0, none, 0, [], rfl, rfl, Nat.zero_le _, rfl, OwnB.nil _ _ _, hB1⟩
      case round =>
        obtain ⟨k, A1, c1, pre, rfl, rfl, hk, HP, HO, hBr⟩ := hrel
        have hpl : pre.length ≤ 10240 := by
          rw [HP.out]
          have := cat_len (l.take k) fun n hn => HL.out n (List.mem_of_mem_take hn)
          rw [List.length_take] at this
          omega
        by_cases hlt : k < l.length
        · obtain ⟨g, o, rfl, hg, hc⟩ := (hA.below hBr).at_ (by omega)
          have hck := hc k hlt
          have hx := HL.out l[k] (List.getElem_mem hlt)
          have hcat := cat_snoc l k hlt
          rw [← HP.out] at hcat
          clear hc
          obtain ⟨x, hxe⟩ : ∃ x, x = l[k] := ⟨_, rfl⟩
          rw [← hxe] at hck hx hcat
          obtain ⟨r, hr⟩ : ∃ r, r = pre ++ uvarint x := ⟨_, rfl⟩
          rw [← hr] at hcat
          have HX := Lib.hid hx
          have HR := Lib.hid hr
          have HC := Lib.hid hcat
          clear hxe hx hcat hr
          go_wp2_with fail
          refine (put_as c1 x r HR HO.out.reads (by omega) HX.out).mono ?_
          rintro e w2 ⟨g2, cap2, rfl, hown2, hB2⟩
          go_wp2_with fail
          go_roundw
          case rel => exact ⟨k + 1, some ⟨g2, 0, none⟩, cap2, r, rfl, by go_num, by omega, HC.out.symm, own_weaken hBr.size hown2, hBr.trans (hB2.mono hBr.size)⟩
          case measure => simp [intOf]; omega
        · have hkl : k = l.length := by omega
          have hpre : pre = cat l := by rw [HP.out, hkl, List.take_length]
          obtain ⟨i0, hi, hz0, hz1, hz2⟩ := info_parts infoB
          obtain ⟨A2, c2, w2, hap, hown, hB2⟩ := run_append_byt w.heap.size 22 22 5 i0 _ Try.underlying22 hi hz0 hz1 hz2 rfl c1 d HO.out (hB.below hBr) (pre ++ m) rfl (by rw [List.length_append]; omega) hBr.size
          obtain ⟨r, hr⟩ : ∃ r, r = pre ++ m := ⟨_, rfl⟩
          rw [← hr] at hap hown
          have hrl : r.length ≤ 100000 := by rw [hr, List.length_append]; omega
          have hpr : pre.length ≤ r.length := by rw [hr, List.length_append]; omega
          have HAp := Lib.hid hap
          have hrd := hown.reads
          have hcap := own_cap hown
          have hBw := hBr.trans hB2
          have HR : Hid (r = cat l ++ m) := by rw [hr, hpre]; rfl
          have HPL : Hid (pre.length = (cat l).length) := by rw [hpre]; rfl
          clear hi hz0 hz1 hz2 hap hr hpre hkl HP HO hown
          go_wp2_with (at_builtin; refine wpList_append_run rfl (.tmp 37) (.tmp 38) _ rfl rfl rfl HAp.out ?_)
          obtain ⟨en, hen⟩ : ∃ en, en = pre.length := ⟨_, rfl⟩
          rw [← hen] at hpr
          rw [← hen]
          have HEN : Hid (en = (cat l).length) := by rw [hen]; exact HPL
          clear hen HAp
          go_loop [8, 9] (fun a i => ∃ q j : Nat, a = .int .i64 q ∧ i = .int .i64 j ∧ j ≤ l.length ∧ q ≤ en ∧ Hid (q = (cat (l.take j)).length)) (fun _ i => l.length - (intOf i).toNat)
          case atStart => exact ⟨0, 0, rfl, rfl, Nat.zero_le _, Nat.zero_le _, rfl⟩
          case round =>
            obtain ⟨q, j, rfl, rfl, hj, hq, HQ⟩ := hrel
            by_cases hlt2 : j < l.length
            · obtain ⟨g, o, rfl, hg, hc⟩ := (hA.below hBw).at_ (by omega)
              have hck := hc j hlt2
              have hx := HL.out l[j] (List.getElem_mem hlt2)
              have hcat := cat_snoc l j hlt2
              have hrest := cat_rest l j hlt2
              clear hc
              obtain ⟨x, hxe⟩ : ∃ x, x = l[j] := ⟨_, rfl⟩
              rw [← hxe] at hck hx hcat hrest
              have hdrop : r.drop q = uvarint x ++ (cat (l.drop (j + 1)) ++ m) := by
                rw [HR.out, hrest, HQ.out, List.append_assoc, List.drop_left, List.append_assoc]
              have hqe : q + vsz x ≤ en := by
                rw [HEN.out, HQ.out, hrest, List.length_append, List.length_append]
                unfold vsz
                omega
              have hvx := vsz_le (x := x) (by omega)
              have HQ2 : Hid (q + vsz x = (cat (l.take (j + 1))).length) := by
                rw [hcat, List.length_append, HQ.out]; rfl
              obtain ⟨A', hA'⟩ : ∃ A', A' = if c2 = q then A2 else A2.map (·.add q) := ⟨_, rfl⟩
              have hsl := run_cut_l (P := Try.prog) Try.underlying22 sizeB A2 A' r.length c2 q (by omega) hA'
              have hD := hrd.drop hcap (k := q) (by omega)
              rw [← hA', hdrop] at hD
              have HN : Hid (r.length - q = (uvarint x ++ (cat (l.drop (j + 1)) ++ m)).length) := by rw [← hdrop, List.length_drop]; rfl
              have HT := Lib.hid (take_put x (cat (l.drop (j + 1)) ++ m) hx)
              obtain ⟨rest, hre⟩ : ∃ rest, rest = uvarint x ++ (cat (l.drop (j + 1)) ++ m) := ⟨_, rfl⟩
              rw [← hre] at HN HT hD
              have HX := Lib.hid hx
              clear hxe hx hcat hrest hdrop hA' hre
              go_wp2_with fail
              refine (take_is _ HN hD (by omega) HT).mono ?_
              rintro e w4 ⟨rfl, rfl⟩
              go_wp2_with (go_at_call 13; refine (size_any _ _ HX.out).mono ?_; rintro e w5 ⟨rfl, rfl⟩)
              go_round
              case rel => exact ⟨q + vsz x, j + 1, by go_num, by go_num, by omega, hqe, HQ2⟩
              case measure => simp [intOf]; omega
            · have hjl : j = l.length := by omega
              have hqe : q = en := by rw [HQ.out, HEN.out, hjl, List.take_length]
              have HE := Lib.hid hqe
              clear hqe hjl
              go_wp2_with fail
              go_ret
              exact ⟨ret_bool (by rw [HE.out]; simp), hBw⟩
end Go.Proofs.Ytbnlglcjamifpaa
