/- The walks of the reference's Put and more. -/
import Derived.Test.YtijgcfnjbfaelaaDoorUtfMem
import Derived.Test.YtijgcfnjbfaelaaDoorUtfEnc
import Derived.WalkKit
import Derived.BigCall
import Derived.Laws.IdiomStrings
import Derived.Laws.BytesArg
import Derived.Lib.BufferRead
namespace Go.Proofs.YtijgcfnjbfaelaaDoor
open Go.RowKit

/-- string(b) of a slice that reads as the bytes l -/
theorem run_text {w : World} {B : Nat} {A : Option Addr} {l : List UInt8} (c : Nat) (h : Byt w B A l) :
    (convert 40 9 (.slice A l.length c)).run Tryd.prog w = .ok (.string (tx l)) w := by
  cases A with
  | none =>
    have hl : l = [] := by
      rcases h with h | ⟨b, o, h, _⟩
      · exact h
      · cases h
    subst hl
    exact Lib.run_convert_nil_bytes w _ _ _ c Tryd.underlying40 Tryd.underlying5 Tryd.underlying9
  | some a =>
    refine run_convert_bytes_back w _ _ _ a c l Tryd.underlying40 Tryd.underlying5 Tryd.underlying9 fun j hj => ?_
    rcases h with rfl | ⟨b, o, ha, _, hc⟩
    · exact absurd hj (by simp)
    · cases ha
      rw [Addr.add_lit]
      exact hc j hj

/-- a list of bytes that was just made -/
theorem Byt.made (w : World) (cs : Array Value) (l : List UInt8) (h : cs.toList = Lib.byteCells l) (T : TypeId) : Byt (w.alloc (.cells cs T)) (w.alloc (.cells cs T)).heap.size (some ⟨w.heap.size, 0, none⟩) l := by
  refine .inr ⟨w.heap.size, 0, rfl, by simp, fun j hj => ?_⟩
  rw [cell_of_row _ w.heap.size _ cs T (0, 0) (heap_alloc_new w _), Nat.zero_add]
  rw [← Array.getElem?_toList, h]
  exact byteCells_get l j hj

set_option maxRecDepth 100000 in
set_option maxHeartbeats 1000000 in
theorem rput_char (w : World) (c : Int) (hc : isC c) :
    Calls Tryd.prog 86 #[.int .i64 c] w fun e w' => e = .returned (.string (tx (putL c))) ∧ Below w.heap.size w w' := by
  have hp : putL c = Lib.encodeRune c := by unfold putL; rw [if_pos hc]
  rw [hp]
  obtain ⟨C, hC⟩ : ∃ C : Nat, c = C := ⟨c.toNat, by have := hc.1; omega⟩
  have g0 : ¬ (c < 0) := by omega
  have hcC : isC (C : Int) := by rw [← hC]; exact hc
  have c1 := hc.2.1
  have c2 := hc.2.2
  have g1 : ¬ ((1114111 : Int) < c) := by omega
  have hfm := enc_form C hcC
  rw [← hC] at hfm
  rcases hfm with ⟨k, a, ea, ha⟩ | ⟨k, k', a, b, ea, ha, hb⟩ | ⟨k, k', a, b, e, ea, ha, hb, he⟩ | ⟨k, a, b, e, f, ea, ha, hb, he, hf⟩
  · rw [ea]
    have g2 : ¬ ((55296 : Int) ≤ c) := by omega
    have g3 : c < 128 := by omega
    have za : ((a.toNat : Nat) : Int) = c := by omega
    have hcv : (convert 40 9 (.slice (some ⟨w.heap.size, 0, none⟩) 1 1)).run Tryd.prog (w.alloc (.cells #[.int .u8 c] 5)) = .ok (.string (tx [a])) (w.alloc (.cells #[.int .u8 c] 5)) :=
      run_text (l := [a]) 1 (Byt.made w #[.int .u8 c] [a] (by simp only [Lib.byteCells, List.map_cons, List.map_nil, za]) 5)
    clear hc hp ea c2 ha za hcC hC k
    go_enter Tryd.func86, Tryd.ntmps86
    go_wp2
    go_ret
    exact ⟨rfl, (Below.refl _ _).alloc (Nat.le_refl _) _⟩
  · rw [ea]
    have g2 : ¬ ((55296 : Int) ≤ c) := by omega
    have g3 : ¬ (c < 128) := by omega
    have g4 : (c < 2048) := by omega
    have za : ((a.toNat : Nat) : Int) = 192 + c / 64 := by omega
    have zb : ((b.toNat : Nat) : Int) = 128 + c % 64 := by omega
    have hcv : (convert 40 9 (.slice (some ⟨w.heap.size, 0, none⟩) 2 2)).run Tryd.prog (w.alloc (.cells #[.int .u8 (192 + c / 64), .int .u8 (128 + c % 64)] 5)) = .ok (.string (tx [a, b])) (w.alloc (.cells #[.int .u8 (192 + c / 64), .int .u8 (128 + c % 64)] 5)) :=
      run_text (l := [a, b]) 2 (Byt.made w #[.int .u8 (192 + c / 64), .int .u8 (128 + c % 64)] [a, b] (by simp only [Lib.byteCells, List.map_cons, List.map_nil, za, zb]) 5)
    clear hc hp ea c2 ha hb za zb hcC hC k k'
    go_enter Tryd.func86, Tryd.ntmps86
    go_wp2
    go_ret
    exact ⟨rfl, (Below.refl _ _).alloc (Nat.le_refl _) _⟩
  · rw [ea]
    have g3 : ¬ (c < 128) := by omega
    have g4 : ¬ (c < 2048) := by omega
    have g5 : (c < 65536) := by omega
    have za : ((a.toNat : Nat) : Int) = 224 + c / 4096 := by omega
    have zb : ((b.toNat : Nat) : Int) = 128 + c / 64 % 64 := by omega
    have ze : ((e.toNat : Nat) : Int) = 128 + c % 64 := by omega
    have hcv : (convert 40 9 (.slice (some ⟨w.heap.size, 0, none⟩) 3 3)).run Tryd.prog (w.alloc (.cells #[.int .u8 (224 + c / 4096), .int .u8 (128 + c / 64 % 64), .int .u8 (128 + c % 64)] 5)) = .ok (.string (tx [a, b, e])) (w.alloc (.cells #[.int .u8 (224 + c / 4096), .int .u8 (128 + c / 64 % 64), .int .u8 (128 + c % 64)] 5)) :=
      run_text (l := [a, b, e]) 3 (Byt.made w #[.int .u8 (224 + c / 4096), .int .u8 (128 + c / 64 % 64), .int .u8 (128 + c % 64)] [a, b, e] (by simp only [Lib.byteCells, List.map_cons, List.map_nil, za, zb, ze]) 5)
    clear hp ea ha hb he za zb ze hcC hC k k'
    by_cases g2 : (55296 : Int) ≤ c
    · have g6 : ¬ (c ≤ 57343) := by omega
      clear hc c2
      go_enter Tryd.func86, Tryd.ntmps86
      go_wp2
      go_ret
      exact ⟨rfl, (Below.refl _ _).alloc (Nat.le_refl _) _⟩
    · clear hc c2
      go_enter Tryd.func86, Tryd.ntmps86
      go_wp2
      go_ret
      exact ⟨rfl, (Below.refl _ _).alloc (Nat.le_refl _) _⟩
  · rw [ea]
    have g2 : (55296 : Int) ≤ c := by omega
    have g6 : ¬ (c ≤ 57343) := by omega
    have g3 : ¬ (c < 128) := by omega
    have g4 : ¬ (c < 2048) := by omega
    have g5 : ¬ (c < 65536) := by omega
    have za : ((a.toNat : Nat) : Int) = 240 + c / 262144 := by omega
    have zb : ((b.toNat : Nat) : Int) = 128 + c / 4096 % 64 := by omega
    have ze : ((e.toNat : Nat) : Int) = 128 + c / 64 % 64 := by omega
    have zf : ((f.toNat : Nat) : Int) = 128 + c % 64 := by omega
    have hcv : (convert 40 9 (.slice (some ⟨w.heap.size, 0, none⟩) 4 4)).run Tryd.prog (w.alloc (.cells #[.int .u8 (240 + c / 262144), .int .u8 (128 + c / 4096 % 64), .int .u8 (128 + c / 64 % 64), .int .u8 (128 + c % 64)] 5)) = .ok (.string (tx [a, b, e, f])) (w.alloc (.cells #[.int .u8 (240 + c / 262144), .int .u8 (128 + c / 4096 % 64), .int .u8 (128 + c / 64 % 64), .int .u8 (128 + c % 64)] 5)) :=
      run_text (l := [a, b, e, f]) 4 (Byt.made w #[.int .u8 (240 + c / 262144), .int .u8 (128 + c / 4096 % 64), .int .u8 (128 + c / 64 % 64), .int .u8 (128 + c % 64)] [a, b, e, f] (by simp only [Lib.byteCells, List.map_cons, List.map_nil, za, zb, ze, zf]) 5)
    clear hc hp ea c2 ha hb he hf za zb ze zf hcC hC k
    go_enter Tryd.func86, Tryd.ntmps86
    go_wp2
    go_ret
    exact ⟨rfl, (Below.refl _ _).alloc (Nat.le_refl _) _⟩

set_option maxRecDepth 100000 in
set_option maxHeartbeats 1000000 in
theorem rput_none (w : World) (c : Int) (h : ¬ isC c) :
    Calls Tryd.prog 86 #[.int .i64 c] w fun e w' => e = .returned (.string (tx (putL c))) ∧ Below w.heap.size w w' := by
  have hp : putL c = [] := by unfold putL; rw [if_neg h]
  rw [hp]
  unfold isC at h
  by_cases h0 : c < 0
  · clear h hp
    go_enter Tryd.func86, Tryd.ntmps86
    go_wp2
    go_ret
    exact ⟨rfl, Below.refl _ _⟩
  · by_cases h1 : 1114111 < c
    · clear h hp
      go_enter Tryd.func86, Tryd.ntmps86
      go_wp2
      go_ret
      exact ⟨rfl, Below.refl _ _⟩
    · have h2 : 55296 ≤ c := by omega
      have h3 : c ≤ 57343 := by omega
      clear h hp
      go_enter Tryd.func86, Tryd.ntmps86
      go_wp2
      go_ret
      exact ⟨rfl, Below.refl _ _⟩

theorem rput_any {w0 w : World} (h : St w0 w) (c : Int) :
    Calls Tryd.prog 86 #[.int .i64 c] w fun e w' => e = .returned (.string (tx (putL c))) ∧ St w0 w' := by
  by_cases hc : isC c
  · exact (rput_char w c hc).mono fun _ _ ⟨he, hb⟩ => ⟨he, h.then_ hb⟩
  · exact (rput_none w c hc).mono fun _ _ ⟨he, hb⟩ => ⟨he, h.then_ hb⟩

/-- the six bits of a further byte behind c; -1 if it is none -/
def moreP (c : Int) (l : List UInt8) (i : Nat) : Int :=
  if c < 0 then -1 else if l.length ≤ i then -1 else if (l.getD i 0).toNat < 128 ∨ 191 < (l.getD i 0).toNat then -1 else c * 64 + (l.getD i 0).toNat - 128
theorem moreP_le {c : Int} {l : List UInt8} {i : Nat} {m : Int} (h : c ≤ m) (h0 : 0 ≤ m) : -1 ≤ moreP c l i ∧ moreP c l i ≤ m * 64 + 63 := by
  unfold moreP
  have := (l.getD i 0).toNat_lt
  split
  · omega
  · split
    · omega
    · split
      · omega
      · omega

set_option maxRecDepth 100000 in
set_option maxHeartbeats 1000000 in
theorem more_any (w : World) (c : Int) (s : ByteArray) (i : Nat) (hc : c ≤ 1048576) (_hi : i ≤ 4) (_hs : s.size ≤ 140737488355328) :
    Calls Tryd.prog 85 #[.int .i64 c, .string s, .int .i64 i] w fun e w' => e = .returned (.int .i64 (moreP c (ls s) i)) ∧ w' = w := by
  by_cases h0 : c < 0
  · have e : moreP c (ls s) i = -1 := by unfold moreP; rw [if_pos h0]
    rw [e]
    clear e
    go_enter Tryd.func85, Tryd.ntmps85
    go_wp2
    go_ret
    exact ⟨rfl, rfl⟩
  · by_cases h1 : s.size ≤ i
    · have e : moreP c (ls s) i = -1 := by unfold moreP; rw [if_neg h0, if_pos (by rw [size_ls]; exact h1)]
      rw [e]
      have h1z : (s.size : Int) ≤ (i : Int) := by omega
      clear e
      go_enter Tryd.func85, Tryd.ntmps85
      go_wp2
      go_ret
      exact ⟨rfl, rfl⟩
    · obtain ⟨x, hx⟩ : ∃ x, (ls s).getD i 0 = x := ⟨_, rfl⟩
      have hlt : i < s.size := by omega
      have hsx : s[i]'hlt = x := by
        rw [← hx]
        have : i < (ls s).length := by rw [size_ls]; exact hlt
        simp only [List.getD, List.getElem?_eq_getElem this, Option.getD_some]
        rfl
      have hltz : (i : Int) < (s.size : Int) := by omega
      have hxl := x.toNat_lt
      have h1z : ¬ ((s.size : Int) ≤ (i : Int)) := by omega
      by_cases hb : x.toNat < 128 ∨ 191 < x.toNat
      · have e : moreP c (ls s) i = -1 := by unfold moreP; rw [if_neg h0, if_neg (by rw [size_ls]; exact h1), if_pos (by rw [hx]; exact hb)]
        rw [e]
        clear e hx
        by_cases h2 : x.toNat < 128
        · have h2z : (x.toNat : Int) < 128 := by omega
          clear hb
          go_enter Tryd.func85, Tryd.ntmps85
          go_wp2
          go_ret
          exact ⟨rfl, rfl⟩
        · have h2z : ¬ ((x.toNat : Int) < 128) := by omega
          have h3z : (191 : Int) < (x.toNat : Int) := by omega
          clear hb
          go_enter Tryd.func85, Tryd.ntmps85
          go_wp2
          go_ret
          exact ⟨rfl, rfl⟩
      · have e : moreP c (ls s) i = c * 64 + x.toNat - 128 := by
          unfold moreP
          rw [if_neg h0, if_neg (by rw [size_ls]; exact h1), if_neg (by rw [hx]; exact hb), hx]
        rw [e]
        have h2z : ¬ ((x.toNat : Int) < 128) := by omega
        have h3z : ¬ ((191 : Int) < (x.toNat : Int)) := by omega
        clear e hx hb
        go_enter Tryd.func85, Tryd.ntmps85
        go_wp2
        go_ret
        exact ⟨rfl, rfl⟩
end Go.Proofs.YtijgcfnjbfaelaaDoor
