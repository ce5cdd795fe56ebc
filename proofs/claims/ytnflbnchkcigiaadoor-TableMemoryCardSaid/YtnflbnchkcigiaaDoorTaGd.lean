/- A character's bytes, number by number; their order. Plain. -/
import Derived.Test.YtnflbnchkcigiaaDoorTaGa
import Derived.Test.YtnflbnchkcigiaaDoorTaGc
import Derived.WalkKit
import Derived.BigCall
import Derived.Laws.IdiomStrings
import Derived.Laws.BytesArg
import Derived.Lib.BufferRead
import Derived.Deep.RegionHeld3
namespace Go.Proofs.YtnflbnchkcigiaaDoor
open Go.RowKit

theorem enc_form (C : Nat) (h : isC C) :
    (C ≤ 127 ∧ ∃ a : UInt8, Lib.encodeRune C = [a] ∧ a.toNat = C) ∨
    (128 ≤ C ∧ C ≤ 2047 ∧ ∃ a b : UInt8, Lib.encodeRune C = [a, b] ∧ a.toNat = 192 + C / 64 ∧ b.toNat = 128 + C % 64) ∨
    (2048 ≤ C ∧ C ≤ 65535 ∧ ∃ a b e : UInt8, Lib.encodeRune C = [a, b, e] ∧ a.toNat = 224 + C / 4096 ∧ b.toNat = 128 + C / 64 % 64 ∧ e.toNat = 128 + C % 64) ∨
    (65536 ≤ C ∧ ∃ a b e f : UInt8, Lib.encodeRune C = [a, b, e, f] ∧ a.toNat = 240 + C / 262144 ∧ b.toNat = 128 + C / 4096 % 64 ∧ e.toNat = 128 + C / 64 % 64 ∧ f.toNat = 128 + C % 64) := by
  obtain ⟨h0, h1, h2⟩ := h
  by_cases a1 : C ≤ 127
  · left
    exact ⟨a1, _, by unfold Lib.encodeRune; rw [Lib.encodeRuneZ_one h0 (by omega)]; rfl, u8 C C rfl (by omega)⟩
  · right
    by_cases a2 : C ≤ 2047
    · left
      exact ⟨by omega, a2, _, _, by unfold Lib.encodeRune; rw [Lib.encodeRuneZ_two (by omega) (by omega)]; rfl, u8 _ _ (by omega) (by omega), u8 _ _ (by omega) (by omega)⟩
    · right
      by_cases a3 : C ≤ 65535
      · left
        exact ⟨by omega, a3, _, _, _, by unfold Lib.encodeRune; rw [Lib.encodeRuneZ_three (by omega)]; rfl, u8 _ _ (by omega) (by omega), u8 _ _ (by omega) (by omega), u8 _ _ (by omega) (by omega)⟩
      · right
        exact ⟨by omega, _, _, _, _, by unfold Lib.encodeRune; rw [Lib.encodeRuneZ_four (by omega) (by omega)]; rfl, u8 _ _ (by omega) (by omega), u8 _ _ (by omega) (by omega), u8 _ _ (by omega) (by omega), u8 _ _ (by omega) (by omega)⟩

theorem bl_lt {a b : UInt8} {x y : List UInt8} (h : a.toNat < b.toNat) : Op.bytesLess (a :: x) (b :: y) = true := by
  have : a < b := UInt8.lt_iff_toNat_lt.2 h
  simp [Op.bytesLess, this]
theorem bl_eq {a b : UInt8} {x y : List UInt8} (h : a.toNat = b.toNat) (g : Op.bytesLess x y = true) : Op.bytesLess (a :: x) (b :: y) = true := by
  have : a = b := UInt8.toNat_inj.1 h
  simp [Op.bytesLess, this, g]
theorem bl_two {a b c d : UInt8} {x y : List UInt8} (h : a.toNat < b.toNat ∨ (a.toNat = b.toNat ∧ c.toNat < d.toNat)) : Op.bytesLess (a :: c :: x) (b :: d :: y) = true := by
  rcases h with h | ⟨h, g⟩
  · exact bl_lt h
  · exact bl_eq h (bl_lt g)
theorem bl_three {a b c d e f : UInt8} {x y : List UInt8} (h : a.toNat < b.toNat ∨ (a.toNat = b.toNat ∧ (c.toNat < d.toNat ∨ (c.toNat = d.toNat ∧ e.toNat < f.toNat)))) : Op.bytesLess (a :: c :: e :: x) (b :: d :: f :: y) = true := by
  rcases h with h | ⟨h, g⟩
  · exact bl_lt h
  · exact bl_eq h (bl_two g)
theorem bl_four {a b c d e f g i : UInt8} {x y : List UInt8} (h : a.toNat < b.toNat ∨ (a.toNat = b.toNat ∧ (c.toNat < d.toNat ∨ (c.toNat = d.toNat ∧ (e.toNat < f.toNat ∨ (e.toNat = f.toNat ∧ g.toNat < i.toNat)))))) : Op.bytesLess (a :: c :: e :: g :: x) (b :: d :: f :: i :: y) = true := by
  rcases h with h | ⟨h, g⟩
  · exact bl_lt h
  · exact bl_eq h (bl_three g)

theorem enc_lt (c d : Int) (hc : isC c) (hd : isC d) (hcd : c < d) : Op.bytesLess (Lib.encodeRune c) (Lib.encodeRune d) = true := by
  obtain ⟨C, rfl⟩ : ∃ C : Nat, c = C := ⟨c.toNat, by have := hc.1; omega⟩
  obtain ⟨D, rfl⟩ : ∃ D : Nat, d = D := ⟨d.toNat, by have := hd.1; omega⟩
  have hCD : C < D := by omega
  have hC1 := hc.2.1
  have hD1 := hd.2.1
  rcases enc_form C hc with ⟨k, a, ea, ha⟩ | ⟨k, k', a, b, ea, ha, hb⟩ | ⟨k, k', a, b, e, ea, ha, hb, he⟩ | ⟨k, a, b, e, f, ea, ha, hb, he, hf⟩ <;>
  rcases enc_form D hd with ⟨l, x, ex, hx⟩ | ⟨l, l', x, y, ex, hx, hy⟩ | ⟨l, l', x, y, z, ex, hx, hy, hz⟩ | ⟨l, x, y, z, v, ex, hx, hy, hz, hv⟩ <;>
  rw [ea, ex] <;>
  first
    | exact bl_lt (by omega)
    | exact bl_two (by omega)
    | exact bl_three (by omega)
    | exact bl_four (by omega)
    | omega
theorem enc_apart (c d : Int) (hc : isC c) (hd : isC d) (hcd : c ≠ d) : (Lib.encodeRune d).take (Lib.encodeRune c).length ≠ Lib.encodeRune c := by
  intro h
  have e1 := nx_put d [] hd
  have e2 := nx_put c ((Lib.encodeRune d).drop (Lib.encodeRune c).length) hc
  have e3 : Lib.encodeRune c ++ (Lib.encodeRune d).drop (Lib.encodeRune c).length = Lib.encodeRune d := by
    have := List.take_append_drop (Lib.encodeRune c).length (Lib.encodeRune d)
    rwa [h] at this
  rw [e3] at e2
  rw [List.append_nil, e2] at e1
  simp only [Prod.mk.injEq] at e1
  exact hcd e1.1
end Go.Proofs.YtnflbnchkcigiaaDoor
/- The walks of the reference's Put and more. -/
namespace Go.Proofs.YtnflbnchkcigiaaDoor
open Go.RowKit

/-- string(b) of a slice that reads as the bytes l -/
theorem run_text {w : World} {B : Nat} {A : Option Addr} {l : List UInt8} (c : Nat) (h : Byt w B A l) :
    (convert 56 9 (.slice A l.length c)).run Tryd.prog w = .ok (.string (tx l)) w := by
  cases A with
  | none =>
    have hl : l = [] := by
      rcases h with h | ⟨b, o, h, _⟩
      · exact h
      · cases h
    subst hl
    exact Lib.run_convert_nil_bytes w _ _ _ c Tryd.underlying56 Tryd.underlying5 Tryd.underlying9
  | some a =>
    refine run_convert_bytes_back w _ _ _ a c l Tryd.underlying56 Tryd.underlying5 Tryd.underlying9 fun j hj => ?_
    rcases h with rfl | ⟨b, o, ha, _, hc⟩
    · exact absurd hj (by simp)
    · cases ha
      rw [Addr.add_lit]
      exact hc j hj

/-- a list of bytes that was just made -/
theorem Byt.made (w : World) (cs : Array Value) (l : List UInt8) (h : cs.toList = Lib.byteCells l) (T : TypeId) : Byt (w.alloc (.cells cs T)) (w.alloc (.cells cs T)).heap.size (some ⟨w.heap.size, 0, none⟩) l := by
  refine .inr ⟨w.heap.size, 0, rfl, by simp, fun j hj => ?_⟩
  rw [cell_of_row _ w.heap.size _ cs T (0, 0) (heap_alloc_new w _), Nat.zero_add]
  rw [← Array.getElem?_toList, h]
  exact byteCells_get l j hj

set_option maxRecDepth 100000 in
set_option maxHeartbeats 1000000 in
theorem rput_char (w : World) (c : Int) (hc : isC c) :
    Calls Tryd.prog 80 #[.int .i64 c] w fun e w' => e = .returned (.string (tx (putL c))) ∧ Below w.heap.size w w' := by
  have hp : putL c = Lib.encodeRune c := by unfold putL; rw [if_pos hc]
  rw [hp]
  obtain ⟨C, hC⟩ : ∃ C : Nat, c = C := ⟨c.toNat, by have := hc.1; omega⟩
  have g0 : ¬ (c < 0) := by omega
  have hcC : isC (C : Int) := by rw [← hC]; exact hc
  have c1 := hc.2.1
  have c2 := hc.2.2
  have g1 : ¬ ((1114111 : Int) < c) := by omega
  have hfm := enc_form C hcC
  rw [← hC] at hfm
  rcases hfm with ⟨k, a, ea, ha⟩ | ⟨k, k', a, b, ea, ha, hb⟩ | ⟨k, k', a, b, e, ea, ha, hb, he⟩ | ⟨k, a, b, e, f, ea, ha, hb, he, hf⟩
  · rw [ea]
    have g2 : ¬ ((55296 : Int) ≤ c) := by omega
    have g3 : c < 128 := by omega
    have za : ((a.toNat : Nat) : Int) = c := by omega
    have hcv : (convert 56 9 (.slice (some ⟨w.heap.size, 0, none⟩) 1 1)).run Tryd.prog (w.alloc (.cells #[.int .u8 c] 5)) = .ok (.string (tx [a])) (w.alloc (.cells #[.int .u8 c] 5)) :=
      run_text (l := [a]) 1 (Byt.made w #[.int .u8 c] [a] (by simp only [Lib.byteCells, List.map_cons, List.map_nil, za]) 5)
    clear hc hp ea c2 ha za hcC hC k
    go_enter Tryd.func80, Tryd.ntmps80
    go_wp2
    go_ret
    exact ⟨rfl, (Below.refl _ _).alloc (Nat.le_refl _) _⟩
  · rw [ea]
    have g2 : ¬ ((55296 : Int) ≤ c) := by omega
    have g3 : ¬ (c < 128) := by omega
    have g4 : (c < 2048) := by omega
    have za : ((a.toNat : Nat) : Int) = 192 + c / 64 := by omega
    have zb : ((b.toNat : Nat) : Int) = 128 + c % 64 := by omega
    have hcv : (convert 56 9 (.slice (some ⟨w.heap.size, 0, none⟩) 2 2)).run Tryd.prog (w.alloc (.cells #[.int .u8 (192 + c / 64), .int .u8 (128 + c % 64)] 5)) = .ok (.string (tx [a, b])) (w.alloc (.cells #[.int .u8 (192 + c / 64), .int .u8 (128 + c % 64)] 5)) :=
      run_text (l := [a, b]) 2 (Byt.made w #[.int .u8 (192 + c / 64), .int .u8 (128 + c % 64)] [a, b] (by simp only [Lib.byteCells, List.map_cons, List.map_nil, za, zb]) 5)
    clear hc hp ea c2 ha hb za zb hcC hC k k'
    go_enter Tryd.func80, Tryd.ntmps80
    go_wp2
    go_ret
    exact ⟨rfl, (Below.refl _ _).alloc (Nat.le_refl _) _⟩
  · rw [ea]
    have g3 : ¬ (c < 128) := by omega
    have g4 : ¬ (c < 2048) := by omega
    have g5 : (c < 65536) := by omega
    have za : ((a.toNat : Nat) : Int) = 224 + c / 4096 := by omega
    have zb : ((b.toNat : Nat) : Int) = 128 + c / 64 % 64 := by omega
    have ze : ((e.toNat : Nat) : Int) = 128 + c % 64 := by omega
    have hcv : (convert 56 9 (.slice (some ⟨w.heap.size, 0, none⟩) 3 3)).run Tryd.prog (w.alloc (.cells #[.int .u8 (224 + c / 4096), .int .u8 (128 + c / 64 % 64), .int .u8 (128 + c % 64)] 5)) = .ok (.string (tx [a, b, e])) (w.alloc (.cells #[.int .u8 (224 + c / 4096), .int .u8 (128 + c / 64 % 64), .int .u8 (128 + c % 64)] 5)) :=
      run_text (l := [a, b, e]) 3 (Byt.made w #[.int .u8 (224 + c / 4096), .int .u8 (128 + c / 64 % 64), .int .u8 (128 + c % 64)] [a, b, e] (by simp only [Lib.byteCells, List.map_cons, List.map_nil, za, zb, ze]) 5)
    clear hp ea ha hb he za zb ze hcC hC k k'
    by_cases g2 : (55296 : Int) ≤ c
    · have g6 : ¬ (c ≤ 57343) := by omega
      clear hc c2
      go_enter Tryd.func80, Tryd.ntmps80
      go_wp2
      go_ret
      exact ⟨rfl, (Below.refl _ _).alloc (Nat.le_refl _) _⟩
    · clear hc c2
      go_enter Tryd.func80, Tryd.ntmps80
      go_wp2
      go_ret
      exact ⟨rfl, (Below.refl _ _).alloc (Nat.le_refl _) _⟩
  · rw [ea]
    have g2 : (55296 : Int) ≤ c := by omega
    have g6 : ¬ (c ≤ 57343) := by omega
    have g3 : ¬ (c < 128) := by omega
    have g4 : ¬ (c < 2048) := by omega
    have g5 : ¬ (c < 65536) := by omega
    have za : ((a.toNat : Nat) : Int) = 240 + c / 262144 := by omega
    have zb : ((b.toNat : Nat) : Int) = 128 + c / 4096 % 64 := by omega
    have ze : ((e.toNat : Nat) : Int) = 128 + c / 64 % 64 := by omega
    have zf : ((f.toNat : Nat) : Int) = 128 + c % 64 := by omega
    have hcv : (convert 56 9 (.slice (some ⟨w.heap.size, 0, none⟩) 4 4)).run Tryd.prog (w.alloc (.cells #[.int .u8 (240 + c / 262144), .int .u8 (128 + c / 4096 % 64), .int .u8 (128 + c / 64 % 64), .int .u8 (128 + c % 64)] 5)) = .ok (.string (tx [a, b, e, f])) (w.alloc (.cells #[.int .u8 (240 + c / 262144), .int .u8 (128 + c / 4096 % 64), .int .u8 (128 + c / 64 % 64), .int .u8 (128 + c % 64)] 5)) :=
      run_text (l := [a, b, e, f]) 4 (Byt.made w #[.int .u8 (240 + c / 262144), .int .u8 (128 + c / 4096 % 64), .int .u8 (128 + c / 64 % 64), .int .u8 (128 + c % 64)] [a, b, e, f] (by simp only [Lib.byteCells, List.map_cons, List.map_nil, za, zb, ze, zf]) 5)
    clear hc hp ea c2 ha hb he hf za zb ze zf hcC hC k
    go_enter Tryd.func80, Tryd.ntmps80
    go_wp2
    go_ret
    exact ⟨rfl, (Below.refl _ _).alloc (Nat.le_refl _) _⟩

set_option maxRecDepth 100000 in
set_option maxHeartbeats 1000000 in
theorem rput_none (w : World) (c : Int) (h : ¬ isC c) :
    Calls Tryd.prog 80 #[.int .i64 c] w fun e w' => e = .returned (.string (tx (putL c))) ∧ Below w.heap.size w w' := by
  have hp : putL c = [] := by unfold putL; rw [if_neg h]
  rw [hp]
  unfold isC at h
  by_cases h0 : c < 0
  · clear h hp
    go_enter Tryd.func80, Tryd.ntmps80
    go_wp2
    go_ret
    exact ⟨rfl, Below.refl _ _⟩
  · by_cases h1 : 1114111 < c
    · clear h hp
      go_enter Tryd.func80, Tryd.ntmps80
      go_wp2
      go_ret
      exact ⟨rfl, Below.refl _ _⟩
    · have h2 : 55296 ≤ c := by omega
      have h3 : c ≤ 57343 := by omega
      clear h hp
      go_enter Tryd.func80, Tryd.ntmps80
      go_wp2
      go_ret
      exact ⟨rfl, Below.refl _ _⟩

theorem rput_any {w0 w : World} (h : St w0 w) (c : Int) :
    Calls Tryd.prog 80 #[.int .i64 c] w fun e w' => e = .returned (.string (tx (putL c))) ∧ St w0 w' := by
  by_cases hc : isC c
  · exact (rput_char w c hc).mono fun _ _ ⟨he, hb⟩ => ⟨he, h.then_ hb⟩
  · exact (rput_none w c hc).mono fun _ _ ⟨he, hb⟩ => ⟨he, h.then_ hb⟩

/-- the six bits of a further byte behind c; -1 if it is none -/
def moreP (c : Int) (l : List UInt8) (i : Nat) : Int :=
  if c < 0 then -1 else if l.length ≤ i then -1 else if (l.getD i 0).toNat < 128 ∨ 191 < (l.getD i 0).toNat then -1 else c * 64 + (l.getD i 0).toNat - 128
theorem moreP_le {c : Int} {l : List UInt8} {i : Nat} {m : Int} (h : c ≤ m) (h0 : 0 ≤ m) : -1 ≤ moreP c l i ∧ moreP c l i ≤ m * 64 + 63 := by
  unfold moreP
  have := (l.getD i 0).toNat_lt
  split
  · omega
  · split
    · omega
    · split
      · omega
      · omega

set_option maxRecDepth 100000 in
set_option maxHeartbeats 1000000 in
theorem more_any (w : World) (c : Int) (s : ByteArray) (i : Nat) (hc : c ≤ 1048576) (_hi : i ≤ 4) (_hs : s.size ≤ 140737488355328) :
    Calls Tryd.prog 79 #[.int .i64 c, .string s, .int .i64 i] w fun e w' => e = .returned (.int .i64 (moreP c (uls s) i)) ∧ w' = w := by
  by_cases h0 : c < 0
  · have e : moreP c (uls s) i = -1 := by unfold moreP; rw [if_pos h0]
    rw [e]
    clear e
    go_enter Tryd.func79, Tryd.ntmps79
    go_wp2
    go_ret
    exact ⟨rfl, rfl⟩
  · by_cases h1 : s.size ≤ i
    · have e : moreP c (uls s) i = -1 := by unfold moreP; rw [if_neg h0, if_pos (by rw [size_uls]; exact h1)]
      rw [e]
      have h1z : (s.size : Int) ≤ (i : Int) := by omega
      clear e
      go_enter Tryd.func79, Tryd.ntmps79
      go_wp2
      go_ret
      exact ⟨rfl, rfl⟩
    · obtain ⟨x, hx⟩ : ∃ x, (uls s).getD i 0 = x := ⟨_, rfl⟩
      have hlt : i < s.size := by omega
      have hsx : s[i]'hlt = x := by
        rw [← hx]
        have : i < (uls s).length := by rw [size_uls]; exact hlt
        simp only [List.getD, List.getElem?_eq_getElem this, Option.getD_some]
        rfl
      have hltz : (i : Int) < (s.size : Int) := by omega
      have hxl := x.toNat_lt
      have h1z : ¬ ((s.size : Int) ≤ (i : Int)) := by omega
      by_cases hb : x.toNat < 128 ∨ 191 < x.toNat
      · have e : moreP c (uls s) i = -1 := by unfold moreP; rw [if_neg h0, if_neg (by rw [size_uls]; exact h1), if_pos (by rw [hx]; exact hb)]
        rw [e]
        clear e hx
        by_cases h2 : x.toNat < 128
        · have h2z : (x.toNat : Int) < 128 := by omega
          clear hb
          go_enter Tryd.func79, Tryd.ntmps79
          go_wp2
          go_ret
          exact ⟨rfl, rfl⟩
        · have h2z : ¬ ((x.toNat : Int) < 128) := by omega
          have h3z : (191 : Int) < (x.toNat : Int) := by omega
          clear hb
          go_enter Tryd.func79, Tryd.ntmps79
          go_wp2
          go_ret
          exact ⟨rfl, rfl⟩
      · have e : moreP c (uls s) i = c * 64 + x.toNat - 128 := by
          unfold moreP
          rw [if_neg h0, if_neg (by rw [size_uls]; exact h1), if_neg (by rw [hx]; exact hb), hx]
        rw [e]
        have h2z : ¬ ((x.toNat : Int) < 128) := by omega
        have h3z : ¬ ((191 : Int) < (x.toNat : Int)) := by omega
        clear e hx hb
        go_enter Tryd.func79, Tryd.ntmps79
        go_wp2
        go_ret
        exact ⟨rfl, rfl⟩
end Go.Proofs.YtnflbnchkcigiaaDoor
/- The walks of the reference's Next, Fault, Valid, Count. -/
namespace Go.Proofs.YtnflbnchkcigiaaDoor
open Go.RowKit

/-- the number that the front's bits would be -/
def refc (l : List UInt8) : Int :=
  if (l.getD 0 0).toNat < 128 then ((l.getD 0 0).toNat : Int)
  else if 192 ≤ (l.getD 0 0).toNat ∧ (l.getD 0 0).toNat < 224 then moreP (((l.getD 0 0).toNat : Int) - 192) l 1
  else if 224 ≤ (l.getD 0 0).toNat ∧ (l.getD 0 0).toNat < 240 then moreP (moreP (((l.getD 0 0).toNat : Int) - 224) l 1) l 2
  else if 240 ≤ (l.getD 0 0).toNat ∧ (l.getD 0 0).toNat < 248 then moreP (moreP (moreP (((l.getD 0 0).toNat : Int) - 240) l 1) l 2) l 3
  else -1

theorem moreP_of {c : Int} {l : List UInt8} {i : Nat} {x : UInt8} {n : Nat} (h0 : 0 ≤ c) (hi : i < l.length) (hx : l.getD i 0 = x) (hn : x.toNat = 128 + n) (h64 : n < 64) : moreP c l i = c * 64 + n := by
  unfold moreP
  rw [if_neg (by omega), if_neg (by omega), hx, if_neg (by omega)]
  omega
theorem refc_enc (c : Int) (r : List UInt8) (hc : isC c) : refc (Lib.encodeRune c ++ r) = c := by
  obtain ⟨C, rfl⟩ : ∃ C : Nat, c = C := ⟨c.toNat, by have := hc.1; omega⟩
  have c1 := hc.2.1
  rcases enc_form C hc with ⟨k, a, ea, ha⟩ | ⟨k, k', a, b, ea, ha, hb⟩ | ⟨k, k', a, b, e, ea, ha, hb, he⟩ | ⟨k, a, b, e, f, ea, ha, hb, he, hf⟩
  · rw [ea]
    unfold refc
    rw [show ([a] ++ r).getD 0 0 = a from rfl, ha, if_pos (by omega)]
  · rw [ea]
    unfold refc
    rw [show ([a, b] ++ r).getD 0 0 = a from rfl, ha, if_neg (by omega), if_pos (by omega)]
    rw [moreP_of (x := b) (n := C % 64) (by omega) (by simp) rfl hb (by omega)]
    omega
  · rw [ea]
    unfold refc
    rw [show ([a, b, e] ++ r).getD 0 0 = a from rfl, ha, if_neg (by omega), if_neg (by omega), if_pos (by omega)]
    rw [moreP_of (i := 1) (x := b) (n := C / 64 % 64) (by omega) (by simp) rfl hb (by omega)]
    rw [moreP_of (i := 2) (x := e) (n := C % 64) (by omega) (by simp) rfl he (by omega)]
    omega
  · rw [ea]
    unfold refc
    rw [show ([a, b, e, f] ++ r).getD 0 0 = a from rfl, ha, if_neg (by omega), if_neg (by omega), if_neg (by omega), if_pos (by omega)]
    rw [moreP_of (i := 1) (x := b) (n := C / 4096 % 64) (by omega) (by simp) rfl hb (by omega)]
    rw [moreP_of (i := 2) (x := e) (n := C / 64 % 64) (by omega) (by simp) rfl he (by omega)]
    rw [moreP_of (i := 3) (x := f) (n := C % 64) (by omega) (by simp) rfl hf (by omega)]
    omega

/-- what the reference tells: it stands there if its bytes do -/
theorem nx_ref (l : List UInt8) (hne : l ≠ []) (P : List UInt8) (hP : putL (refc l) = P) :
    (P = [] ∨ l.length < P.length ∨ l.take P.length ≠ P) ∧ nx l = (-1, 1) ∨ (P ≠ [] ∧ P.length ≤ l.length ∧ l.take P.length = P ∧ nx l = (refc l, P.length)) := by
  rcases nx_cases l hne with hx | ⟨c, r, hc, hl, hx⟩
  · left
    refine ⟨?_, hx⟩
    by_cases h0 : P = []
    · exact .inl h0
    · right; right
      intro ht
      have hc : isC (refc l) := by
        by_cases hc : isC (refc l)
        · exact hc
        · exfalso; apply h0; rw [← hP]; unfold putL; rw [if_neg hc]
      have hE : P = Lib.encodeRune (refc l) := by rw [← hP]; unfold putL; rw [if_pos hc]
      have := nx_put (refc l) (l.drop P.length) hc
      rw [← hE] at this
      have ht2 : P ++ l.drop P.length = l := by
        have := List.take_append_drop P.length l
        rwa [ht] at this
      rw [ht2, hx] at this
      simp only [Prod.mk.injEq] at this
      have h1 := hc.1
      omega
  · right
    have hr : refc l = c := by rw [hl]; exact refc_enc c r hc
    have hE : P = Lib.encodeRune c := by rw [← hP, hr]; unfold putL; rw [if_pos hc]
    subst hE
    refine ⟨enc_ne c, by rw [hl, List.length_append]; omega, by rw [hl, List.take_left], by rw [hx, hr]⟩

theorem usize_zero (s : ByteArray) : s.toList = [] ↔ s.size = 0 := by
  rw [Lib.toList_data]
  constructor
  · intro h
    rw [← size_uls]
    unfold uls
    rw [h]
    rfl
  · intro h
    exact List.eq_nil_of_length_eq_zero (by have := size_uls s; unfold uls at this; omega)

/-- what the check behind it finds -/
structure Found (s P : ByteArray) (R : Int) (X : Int × Nat) : Prop where
  none_ : P.toList = [] → X = (-1, 1)
  long_ : s.size < P.size → X = (-1, 1)
  other_ : ¬ (s.extract 0 P.size).toList = P.toList → X = (-1, 1)
  here_ : ¬ P.toList = [] → ¬ s.size < P.size → (s.extract 0 P.size).toList = P.toList → X = (R, P.size)
theorem found (s : ByteArray) (hne : uls s ≠ []) : Found s (tx (putL (refc (uls s)))) (refc (uls s)) (nx (uls s)) := by
  obtain ⟨Q, hQ⟩ : ∃ Q, putL (refc (uls s)) = Q := ⟨_, rfl⟩
  have hr := nx_ref (uls s) hne Q hQ
  rw [hQ]
  have hl : (tx Q).toList = Q := by rw [Lib.toList_data]; rfl
  have hz : (tx Q).size = Q.length := size_tx Q
  have hx : (s.extract 0 (tx Q).size).toList = (uls s).take Q.length := by
    rw [Lib.toList_data, hz]
    have := uls_cut s 0 Q.length
    unfold uls at this
    rw [this, List.drop_zero]
    rfl
  rw [size_uls] at hr
  refine ⟨fun h => ?_, fun h => ?_, fun h => ?_, fun h1 h2 h3 => ?_⟩
  · rcases hr with hr | hr
    · exact hr.2
    · rw [hl] at h; exact absurd h hr.1
  · rcases hr with hr | hr
    · exact hr.2
    · rw [hz] at h; exact absurd hr.2.1 (by omega)
  · rcases hr with hr | hr
    · exact hr.2
    · rw [hx, hl] at h; exact absurd hr.2.2.1 h
  · rw [hl] at h1
    rw [hz] at h2
    rw [hx, hl] at h3
    rcases hr with hr | hr
    · rcases hr.1 with g | g | g
      · exact absurd g h1
      · exact absurd g h2
      · exact absurd h3 g
    · rw [hz]; exact hr.2.2.2

theorem Found.bad2 {s P : ByteArray} {R : Int} {X : Int × Nat} (h : Found s P R X) (g : (P.toList.isEmpty = true ∨ s.size < P.size) ∨ (!(s.extract 0 P.size).toList == P.toList) = true) : X = (-1, 1) := by
  rcases g with (g | g) | g
  · exact h.none_ (by simpa using g)
  · exact h.long_ g
  · exact h.other_ (by simpa using g)
theorem Found.here2 {s P : ByteArray} {R : Int} {X : Int × Nat} (h : Found s P R X) (g : (P.toList.isEmpty = false ∧ ¬ s.size < P.size) ∧ (!(s.extract 0 P.size).toList == P.toList) = false) : X = (R, P.size) := by
  obtain ⟨⟨g1, g2⟩, g3⟩ := g
  exact h.here_ (by simpa using g1) g2 (by simpa using g3)

theorem rnext_nil {w0 w : World} (h : St w0 w) (s : ByteArray) (hs : s.size = 0) :
    Calls Tryd.prog 76 #[.string s] w fun e w' => e = .returned (.tuple #[.int .i64 (nx (uls s)).1, .int .i64 (nx (uls s)).2]) ∧ St w0 w' := by
  have hl : uls s = [] := List.eq_nil_of_length_eq_zero (by rw [size_uls]; exact hs)
  obtain rfl : s = ByteArray.empty := uls_inj (by rw [hl]; rfl)
  rw [hl, nx_nil]
  go_enter Tryd.func76, Tryd.ntmps76
  go_wp2
  go_ret2
  exact ⟨rfl, h⟩

set_option maxRecDepth 100000 in
set_option maxHeartbeats 1000000 in
theorem rnext_any {w0 w : World} (h : St w0 w) (s : ByteArray) (hs : ¬ s.size = 0) (hm : s.size ≤ 140737488355328) :
    Calls Tryd.prog 76 #[.string s] w fun e w' => e = .returned (.tuple #[.int .i64 (nx (uls s)).1, .int .i64 (nx (uls s)).2]) ∧ St w0 w' := by
  have hne : uls s ≠ [] := fun hn => hs (by rw [← size_uls, hn]; rfl)
  have hnl : ¬ s.toList = [] := fun hn => hs ((usize_zero s).1 hn)
  have hnl2 : s.toList.isEmpty = false := by simpa using hnl
  have hF := found s hne
  have hput := fun {w1 : World} (g : St w0 w1) => rput_any g (refc (uls s))
  have hmore1 : ∀ (w1 : World) (c : Int), c ≤ 1048576 → Calls Tryd.prog 79 #[.int .i64 c, .string s, .int .i64 1] w1 fun e w' => e = .returned (.int .i64 (moreP c (uls s) 1)) ∧ w' = w1 := fun w1 c hc => more_any w1 c s 1 hc (by omega) hm
  have hmore2 : ∀ (w1 : World) (c : Int), c ≤ 1048576 → Calls Tryd.prog 79 #[.int .i64 c, .string s, .int .i64 2] w1 fun e w' => e = .returned (.int .i64 (moreP c (uls s) 2)) ∧ w' = w1 := fun w1 c hc => more_any w1 c s 2 hc (by omega) hm
  have hmore3 : ∀ (w1 : World) (c : Int), c ≤ 1048576 → Calls Tryd.prog 79 #[.int .i64 c, .string s, .int .i64 3] w1 fun e w' => e = .returned (.int .i64 (moreP c (uls s) 3)) ∧ w' = w1 := fun w1 c hc => more_any w1 c s 3 hc (by omega) hm
  obtain ⟨P, hP⟩ : ∃ P, tx (putL (refc (uls s))) = P := ⟨_, rfl⟩
  obtain ⟨X, hX⟩ : ∃ X, nx (uls s) = X := ⟨_, rfl⟩
  obtain ⟨R, hR⟩ : ∃ R, refc (uls s) = R := ⟨_, rfl⟩
  rw [hR] at hP hF
  rw [hP, hX] at hF
  simp only [hR, hP] at hput
  rw [hX]
  obtain ⟨x, hx⟩ : ∃ x, (uls s).getD 0 0 = x := ⟨_, rfl⟩
  have hlt : 0 < s.size := by omega
  have hsx : s[0]'hlt = x := by
    rw [← hx]
    have : 0 < (uls s).length := by rw [size_uls]; exact hlt
    simp only [List.getD, List.getElem?_eq_getElem this, Option.getD_some]
    rfl
  have hltz : (0 : Int) < (s.size : Int) := by omega
  have hxl := x.toNat_lt
  unfold refc at hR
  rw [hx] at hR
  obtain ⟨l, hl⟩ : ∃ l, uls s = l := ⟨_, rfl⟩
  rw [hl] at hR hmore1 hmore2 hmore3
  clear hne hP hX hx hl
  by_cases b1 : x.toNat < 128
  · rw [if_pos b1] at hR
    have b1z : (x.toNat : Int) < 128 := by omega
    subst hR
    go_enter Tryd.func76, Tryd.ntmps76
    go_wp2_with (go_at_call 80; refine (hput (by assumption)).mono ?_; rintro e w' ⟨rfl, hst⟩)
    all_goals (go_ret2; refine ⟨?_, by assumption⟩)
    all_goals first
      | (rw [hF.none_ (by assumption)]; rfl)
      | (rw [hF.bad2 (by assumption)]; rfl)
      | (rw [hF.here2 (by assumption)]; rfl)
      | (rw [hF.long_ (by omega)]; rfl)
  · rw [if_neg b1] at hR
    have b1z : ¬ ((x.toNat : Int) < 128) := by omega
    obtain ⟨n, hn⟩ : ∃ n : Int, n = (x.toNat : Int) := ⟨_, rfl⟩
    have hn0 : 128 ≤ n := by omega
    have hn1 : n < 256 := by omega
    rw [← hn] at b1z hR
    have HSX : (x.toNat : Int) = n := hn.symm
    by_cases b2 : 192 ≤ x.toNat ∧ x.toNat < 224
    · rw [if_pos b2] at hR
      obtain ⟨m1, e1⟩ : ∃ m1, moreP (n - 192) l 1 = m1 := ⟨_, rfl⟩
      have h1 := fun W => hmore1 W (n - 192) (by omega)
      rw [e1] at hR
      simp only [e1] at h1
      subst hR
      have q1 : 192 ≤ n := by omega
      have q2 : n < 224 := by omega
      clear e1 b2 b1 hn
      go_enter Tryd.func76, Tryd.ntmps76
      go_wp2_with (first | (go_at_call 79; with_reducible refine (h1 _).mono ?_; rintro e w' ⟨rfl, rfl⟩) | (go_at_call 80; refine (hput (by assumption)).mono ?_; rintro e w' ⟨rfl, hst⟩))
      all_goals (go_ret2; refine ⟨?_, by assumption⟩)
      all_goals first
        | (rw [hF.none_ (by assumption)]; rfl)
        | (rw [hF.bad2 (by assumption)]; rfl)
        | (rw [hF.here2 (by assumption)]; rfl)
        | (rw [hF.long_ (by omega)]; rfl)
    · rw [if_neg b2] at hR
      by_cases b3 : 224 ≤ x.toNat ∧ x.toNat < 240
      · rw [if_pos b3] at hR
        obtain ⟨m1, e1⟩ : ∃ m, moreP (n - 224) l 1 = m := ⟨_, rfl⟩
        have k1 := moreP_le (c := n - 224) (l := l) (i := 1) (m := 15) (by omega) (by omega)
        rw [e1] at hR k1
        have h1 := fun W => hmore1 W (n - 224) (by omega)
        simp only [e1] at h1
        clear e1
        obtain ⟨m2, e2⟩ : ∃ m, moreP (m1) l 2 = m := ⟨_, rfl⟩
        have k2 := moreP_le (c := m1) (l := l) (i := 2) (m := 1023) (by omega) (by omega)
        rw [e2] at hR k2
        have h2 := fun W => hmore2 W (m1) (by omega)
        simp only [e2] at h2
        clear e2
        subst hR
        have q0 : ¬ (n < 224) := by omega
        have q1 : 224 ≤ n := by omega
        have q2 : n < 240 := by omega
        clear b3 b2 b1 hn
        go_enter Tryd.func76, Tryd.ntmps76
        go_wp2_with (first | (go_at_call 79; with_reducible refine (h1 _).mono ?_; rintro e w' ⟨rfl, rfl⟩) | (go_at_call 79; with_reducible refine (h2 _).mono ?_; rintro e w' ⟨rfl, rfl⟩) | (go_at_call 80; refine (hput (by assumption)).mono ?_; rintro e w' ⟨rfl, hst⟩))
        all_goals (go_ret2; refine ⟨?_, by assumption⟩)
        all_goals first
          | (rw [hF.none_ (by assumption)]; rfl)
          | (rw [hF.bad2 (by assumption)]; rfl)
          | (rw [hF.here2 (by assumption)]; rfl)
          | (rw [hF.long_ (by omega)]; rfl)
      · rw [if_neg b3] at hR
        by_cases b4 : 240 ≤ x.toNat ∧ x.toNat < 248
        · rw [if_pos b4] at hR
          obtain ⟨m1, e1⟩ : ∃ m, moreP (n - 240) l 1 = m := ⟨_, rfl⟩
          have k1 := moreP_le (c := n - 240) (l := l) (i := 1) (m := 7) (by omega) (by omega)
          rw [e1] at hR k1
          have h1 := fun W => hmore1 W (n - 240) (by omega)
          simp only [e1] at h1
          clear e1
          obtain ⟨m2, e2⟩ : ∃ m, moreP (m1) l 2 = m := ⟨_, rfl⟩
          have k2 := moreP_le (c := m1) (l := l) (i := 2) (m := 511) (by omega) (by omega)
          rw [e2] at hR k2
          have h2 := fun W => hmore2 W (m1) (by omega)
          simp only [e2] at h2
          clear e2
          obtain ⟨m3, e3⟩ : ∃ m, moreP (m2) l 3 = m := ⟨_, rfl⟩
          have k3 := moreP_le (c := m2) (l := l) (i := 3) (m := 32767) (by omega) (by omega)
          rw [e3] at hR k3
          have h3 := fun W => hmore3 W (m2) (by omega)
          simp only [e3] at h3
          clear e3
          subst hR
          have q0 : ¬ (n < 224) := by omega
          have q1 : ¬ (n < 240) := by omega
          have q2 : 240 ≤ n := by omega
          have q3 : n < 248 := by omega
          clear b4 b3 b2 b1 hn
          go_enter Tryd.func76, Tryd.ntmps76
          go_wp2_with (first | (go_at_call 79; with_reducible refine (h1 _).mono ?_; rintro e w' ⟨rfl, rfl⟩) | (go_at_call 79; with_reducible refine (h2 _).mono ?_; rintro e w' ⟨rfl, rfl⟩) | (go_at_call 79; with_reducible refine (h3 _).mono ?_; rintro e w' ⟨rfl, rfl⟩) | (go_at_call 80; refine (hput (by assumption)).mono ?_; rintro e w' ⟨rfl, hst⟩))
          all_goals (go_ret2; refine ⟨?_, by assumption⟩)
          all_goals first
            | (rw [hF.none_ (by assumption)]; rfl)
            | (rw [hF.bad2 (by assumption)]; rfl)
            | (rw [hF.here2 (by assumption)]; rfl)
            | (rw [hF.long_ (by omega)]; rfl)
        · rw [if_neg b4] at hR
          subst hR
          by_cases b5 : n < 192
          · clear b4 b3 b2 b1 hn
            go_enter Tryd.func76, Tryd.ntmps76
            go_wp2_with (go_at_call 80; refine (hput (by assumption)).mono ?_; rintro e w' ⟨rfl, hst⟩)
            all_goals (go_ret2; refine ⟨?_, by assumption⟩)
            all_goals first
              | (rw [hF.none_ (by assumption)]; rfl)
              | (rw [hF.bad2 (by assumption)]; rfl)
              | (rw [hF.here2 (by assumption)]; rfl)
              | (rw [hF.long_ (by omega)]; rfl)
          · have q0 : ¬ (n < 224) := by omega
            have q1 : ¬ (n < 240) := by omega
            have q3 : ¬ (n < 248) := by omega
            clear b4 b3 b2 b1 hn
            go_enter Tryd.func76, Tryd.ntmps76
            go_wp2_with (go_at_call 80; refine (hput (by assumption)).mono ?_; rintro e w' ⟨rfl, hst⟩)
            all_goals (go_ret2; refine ⟨?_, by assumption⟩)
            all_goals first
              | (rw [hF.none_ (by assumption)]; rfl)
              | (rw [hF.bad2 (by assumption)]; rfl)
              | (rw [hF.here2 (by assumption)]; rfl)
              | (rw [hF.long_ (by omega)]; rfl)
end Go.Proofs.YtnflbnchkcigiaaDoor
/- The walks of the reference's Next of any text, Fault, Valid. -/
namespace Go.Proofs.YtnflbnchkcigiaaDoor
open Go.RowKit

theorem rnext_all {w0 w : World} (h : St w0 w) (s : ByteArray) (hm : s.size ≤ 140737488355328) :
    Calls Tryd.prog 76 #[.string s] w fun e w' => e = .returned (.tuple #[.int .i64 (nx (uls s)).1, .int .i64 (nx (uls s)).2]) ∧ St w0 w' := by
  by_cases hs : s.size = 0
  · exact rnext_nil h s hs
  · exact rnext_any h s hs hm

theorem drop_ne {s : ByteArray} {i : Nat} (h : i < s.size) : (uls s).drop i ≠ [] := fun hn => by
  have := congrArg List.length hn
  rw [List.length_drop, size_uls] at this
  simp at this; omega

set_option maxRecDepth 100000 in
set_option maxHeartbeats 1000000 in
theorem rfault_any {w0 w : World} (h : St w0 w) (s : ByteArray) (hs : s.size ≤ 140737488355328) :
    Calls Tryd.prog 60 #[.string s] w fun e w' => e = .returned (.int .i64 (fltL (uls s))) ∧ St w0 w' := by
  obtain ⟨F, hF⟩ : ∃ F, fltL (uls s) = F := ⟨_, rfl⟩
  rw [hF]
  have HF := Lib.hid hF
  clear hF
  go_enter Tryd.func60, Tryd.ntmps60
  go_wp2
  go_loopw [3] (fun n wr => St w0 wr ∧ ∃ i : Nat, n = .int .i64 i ∧ i ≤ s.size ∧ Hid (i + fltL ((uls s).drop i) = F)) (fun n _ => s.size - (intOf n).toNat)
  case atStart => exact ⟨h, 0, rfl, Nat.zero_le _, by have := HF.out; unfold Hid; rw [List.drop_zero]; omega⟩
  case round =>
    obtain ⟨hst, i, rfl, hi, HI⟩ := hrel
    by_cases hlt : i < s.size
    · have hltz : (i : Int) < (s.size : Int) := by omega
      have hne := drop_ne hlt
      have hsp := nx_cases _ hne
      have hrg := nx_range _ hne
      rw [List.length_drop, size_uls] at hrg
      obtain ⟨t, ht⟩ : ∃ t, s.extract i s.size = t := ⟨_, rfl⟩
      have hlt' : uls t = (uls s).drop i := by rw [← ht, uls_from]
      have hts : t.size ≤ 140737488355328 := by
        have := congrArg List.length hlt'
        rw [List.length_drop, size_uls, size_uls] at this
        omega
      have hn := rnext_all hst t hts
      rw [hlt'] at hn
      clear hts
      rcases hsp with hx | ⟨c, r, hc, hl, hx⟩
      · rw [hx] at hn
        have hf : Hid (fltL ((uls s).drop i) = 0) := by
          unfold Hid fltL
          rw [tk_step _ hne, hx]
          rfl
        clear hx hne hrg hlt'
        go_wp2_with (go_at_call 76; refine hn.mono ?_; rintro e w' ⟨rfl, hb⟩)
        go_ret
        have h1 := HI.out
        rw [hf.out] at h1
        exact ⟨ret_int (by omega), hb⟩
      · have hf : fltL ((uls s).drop i) = (Lib.encodeRune c).length + fltL ((uls s).drop (i + (Lib.encodeRune c).length)) := by
          rw [← List.drop_drop, hl, List.drop_left]
          unfold fltL
          rw [tk_char c r hc]
          rfl
        rw [hx] at hn hrg
        obtain ⟨K, hK⟩ : ∃ K, (Lib.encodeRune c).length = K := ⟨_, rfl⟩
        simp only [hK] at hn hrg hf
        have hc0 : ¬ (c < 0) := by have := hc.1; omega
        have HFL := Lib.hid hf
        obtain ⟨hk1, hk4, hks⟩ := hrg
        clear hx hne hlt' hK hf hl hc
        go_wp2_with (go_at_call 76; refine hn.mono ?_; rintro e w' ⟨rfl, hb⟩)
        go_roundw
        case rel => exact ⟨hb, i + K, by go_num, by omega, by have h1 := HI.out; rw [HFL.out] at h1; unfold Hid; omega⟩
        case measure => simp [intOf]; omega
    · go_wp2
      go_ret
      have h1 := HI.out
      rw [List.drop_eq_nil_of_le (by rw [size_uls]; omega)] at h1
      exact ⟨ret_int (by have : fltL [] = 0 := rfl; omega), hst⟩

set_option maxRecDepth 100000 in
set_option maxHeartbeats 1000000 in
theorem rvalid_any {w0 w : World} (h : St w0 w) (s : ByteArray) (hs : s.size ≤ 140737488355328) :
    Calls Tryd.prog 45 #[.string s] w fun e w' => e = .returned (.bool (okL (uls s))) ∧ St w0 w' := by
  have cS := rfault_any h s hs
  rw [ok_flt, size_uls]
  obtain ⟨F, hF⟩ : ∃ F, fltL (uls s) = F := ⟨_, rfl⟩
  rw [hF] at cS ⊢
  clear hF
  go_enter Tryd.func45, Tryd.ntmps45
  go_wp2_with (go_at_call 60; refine cS.mono ?_; rintro e w' ⟨rfl, hb⟩)
  go_ret
  exact ⟨ret_bool (by by_cases g : F = s.size <;> simp [g] <;> omega), hb⟩
end Go.Proofs.YtnflbnchkcigiaaDoor
/- The walk of the reference's Valid. -/
namespace Go.Proofs.YtnflbnchkcigiaaDoor
open Go.RowKit

set_option maxRecDepth 100000 in
set_option maxHeartbeats 1000000 in
theorem rkvalid_any {w0 w : World} (hk : KSt w0 w) (v : Val) (ha : Fits v) (hs : v.s.size ≤ 140737488355328) :
    Calls Tryd.prog 33 #[vv v] w fun e w' => e = .returned (.bool (okV v)) ∧ KSt w0 w' := by
  obtain ⟨k, n, s⟩ := v
  unfold vv okV
  unfold Fits at ha
  dsimp only at hs ha ⊢
  obtain ⟨n0, _⟩ := ha
  have k2 := hk.new (.cells #[.int .i64 k, .int .u64 n, .string s] 51)
  have cv := fun (W : World) (g : KSt w0 W) => KSt.of g ((rvalid_any g.self.st s hs).mono fun _ _ ⟨he, hb⟩ => ⟨he, hb.below⟩)
  obtain ⟨o, ho⟩ : ∃ o, okL (uls s) = o := ⟨_, rfl⟩
  have ho' : okL s.data.toList = o := ho
  rw [ho']
  simp only [ho] at cv
  clear ho ho'
  have hS : s.toList.isEmpty = decide (s.size = 0) := by
    by_cases h : s.size = 0
    · simp [h, (str_nil s).2 h]
    · have : ¬ s.toList = [] := fun g => h ((str_nil s).1 g)
      rw [decide_eq_false h]
      simpa using this
  obtain ⟨E, hE⟩ : ∃ E, decide (s.size = 0) = E := ⟨_, rfl⟩
  rw [hE] at hS ⊢
  have HS := Lib.hid hS
  have hl : s.toList = [] ↔ E = true := by rw [← hE, str_nil]; simp
  clear hS hE
  have HK := Lib.hid hk
  clear hk
  by_cases k1 : k = 1 ∨ k = 2
  · have HL := Lib.hid hl
    clear hl
    rw [if_pos k1]
    rcases k1 with rfl | rfl
    all_goals
      go_enter Tryd.func33, Tryd.ntmps33
      go_wp2
      go_ret
      exact ⟨ret_bool HS.out, k2⟩
  rw [if_neg k1]
  have q1 : (k == 1) = false := by simpa using fun h => k1 (.inl h)
  have q2 : (k == 2) = false := by simpa using fun h => k1 (.inr h)
  clear k1
  by_cases k3 : k = 3
  · rw [if_pos k3]
    subst k3
    by_cases hn : E = true
    · have hl2 := hl.2 hn
      subst hn
      clear hl HS
      go_enter Tryd.func33, Tryd.ntmps33
      go_wp2
      go_ret
      exact ⟨ret_bool (by simp), k2⟩
    · have hl2 : ¬ s.toList = [] := fun g => hn (hl.1 g)
      have hl3 : s.toList.isEmpty = false := by simpa using hl2
      obtain rfl : E = false := by simpa using hn
      clear hl HS hn
      go_enter Tryd.func33, Tryd.ntmps33
      go_wp2
      go_ret
      exact ⟨ret_bool (by simp), k2⟩
  rw [if_neg k3]
  have q3 : (k == 3) = false := by simpa using k3
  clear k3
  have HL := Lib.hid hl
  clear hl
  by_cases k4 : k = 4
  · rw [if_pos k4]
    subst k4
    by_cases hn : n = 0
    · subst hn
      go_enter Tryd.func33, Tryd.ntmps33
      go_wp2_with (go_at_call 45; refine (cv _ k2).mono ?_; rintro e w' ⟨rfl, hst⟩)
      go_ret
      exact ⟨ret_bool (by simp), hst⟩
    · have hnb : (n == 0) = false := by simpa using hn
      go_enter Tryd.func33, Tryd.ntmps33
      go_wp2
      go_ret
      exact ⟨ret_bool (by simp [hn]), k2⟩
  rw [if_neg k4]
  have q4 : (k == 4) = false := by simpa using k4
  clear k4
  by_cases k5 : k = 5
  · rw [if_pos k5]
    subst k5
    go_enter Tryd.func33, Tryd.ntmps33
    go_wp2
    go_ret
    exact ⟨ret_bool (by by_cases h : n = 0 <;> simp [h]), k2⟩
  rw [if_neg k5]
  have q5 : (k == 5) = false := by simpa using k5
  clear k5
  go_enter Tryd.func33, Tryd.ntmps33
  go_wp2
  go_ret
  exact ⟨rfl, k2⟩

end Go.Proofs.YtnflbnchkcigiaaDoor
/- The walks of the reference's payload, key, length, Check, Size. -/
namespace Go.Proofs.YtnflbnchkcigiaaDoor
open Go.RowKit
open Go.Lib (byteCells uvarint)

theorem pay_bool {v : Val} (h : okV v = true) (hf : Fit v) (hk : v.k = 3) : pay v = [v.n.toNat.toUInt8] := by
  have h1 := ok_bool h hk
  have h0 := hf.1
  unfold pay pnum
  rw [hk, if_pos (by rfl), if_neg (by omega), Go.Lib.uvarint_small (by omega)]

set_option maxRecDepth 100000 in
set_option maxHeartbeats 1000000 in
theorem rpay_any (w : World) (v : Val) (hok : okV v = true) (hf : Fit v) :
    Calls Tryd.prog 61 #[.agg (vvC v)] w fun e w' => e = .returned (.int .i64 ((pay v).length : Nat)) ∧ Below w.heap.size w w' := by
  have hB : Below w.heap.size w (w.alloc (.cells (vvC v) 51)) := (Below.refl _ _).alloc (Nat.le_refl _) _
  have hk := ok_kind hok
  have hps := pay_size v
  have hpt := pay_text v
  have hpb := pay_bool hok hf
  have hpr := pnum_range hf
  have hws := wrap_sgn2 v.n hf.1 hf.2
  have hsr := sgn_range hf.1 hf.2
  have hn0 := hf.1
  have hn1 := hf.2
  have h5 : v.k = 1 ∨ v.k = 2 ∨ v.k = 3 ∨ v.k = 4 ∨ v.k = 5 := by omega
  obtain ⟨L, hL⟩ : ∃ L, (pay v).length = L := ⟨_, rfl⟩
  have hpb2 : v.k = 3 → L = 1 := fun q => by rw [← hL, hpb q]; rfl
  rw [hL] at hps hpt ⊢
  clear hpb hL hk
  rcases h5 with g | g | g | g | g
  · have h1 := hps (by rw [g]; rfl)
    unfold pnum at h1 hpr
    rw [if_neg (by omega)] at h1 hpr
    obtain ⟨k, n, s⟩ := v
    dsimp only at g h1 hn0 hn1
    obtain ⟨N, rfl⟩ := Int.eq_ofNat_of_zero_le hn0
    subst g
    have H1 := Lib.hid h1
    have hN : N ≤ 18446744073709551615 := by omega
    unfold vvC at hB ⊢
    dsimp only at hB ⊢
    clear hps hpt hpb2 hws hsr hpr h1 hok hf
    go_enter Tryd.func61, Tryd.ntmps61
    go_wp2_with (go_at_call 62; refine (rsize_any _ _ hN).mono ?_; rintro e w' ⟨rfl, rfl⟩)
    go_ret
    exact ⟨ret_int (by have := H1.out; simp at this; omega), hB⟩
  · have h1 := hps (by rw [g]; rfl)
    unfold pnum at h1 hpr
    rw [if_pos g] at h1 hpr
    obtain ⟨k, n, s⟩ := v
    dsimp only at g h1 hn0 hn1 hws hsr hpr
    have cz := fun W => rzig_any (sgn n) W hsr.1 hsr.2
    obtain ⟨S, hS⟩ : ∃ S, sgn n = S := ⟨_, rfl⟩
    rw [hS] at hws hsr h1 hpr
    simp only [hS] at cz
    obtain ⟨Z, hZ⟩ := Int.eq_ofNat_of_zero_le hpr.1
    rw [hZ] at h1 hpr
    simp only [hZ] at cz
    subst g
    have H1 := Lib.hid h1
    have hN : Z ≤ 18446744073709551615 := by omega
    unfold vvC at hB ⊢
    dsimp only at hB ⊢
    clear hps hpt hpb2 hpr h1 hok hf hS hZ
    go_enter Tryd.func61, Tryd.ntmps61
    go_wp2_with (first
      | (go_at_call 77; refine (cz _).mono ?_; rintro e w' ⟨rfl, rfl⟩)
      | (go_at_call 62; refine (rsize_any _ _ hN).mono ?_; rintro e w' ⟨rfl, rfl⟩))
    go_ret
    exact ⟨ret_int (by have := H1.out; simp at this; omega), hB⟩
  · have H1 := Lib.hid (hpb2 g)
    obtain ⟨k, n, s⟩ := v
    dsimp only at g
    subst g
    unfold vvC at hB ⊢
    dsimp only at hB ⊢
    clear hps hpt hpb2 hpr hok hf hws hsr
    go_enter Tryd.func61, Tryd.ntmps61
    go_wp2
    go_ret
    exact ⟨ret_int (by have := H1.out; omega), hB⟩
  all_goals
    have H1 := Lib.hid (hpt (by rw [g]; rfl))
    obtain ⟨k, n, s⟩ := v
    dsimp only at g H1
    subst g
    unfold vvC at hB ⊢
    dsimp only at hB ⊢
    clear hps hpt hpb2 hpr hok hf hws hsr
    go_enter Tryd.func61, Tryd.ntmps61
    go_wp2
    go_ret
    exact ⟨ret_int (by have := H1.out; omega), hB⟩

set_option maxRecDepth 100000 in
set_option maxHeartbeats 1000000 in
theorem rkey_any (w : World) (f : Fd) (t0 : 0 ≤ f.t) (t1 : f.t ≤ 65535) (k0 : 0 ≤ f.v.k) (k1 : f.v.k ≤ 5) :
    Calls Tryd.prog 63 #[.agg (ffC f)] w fun e w' => e = .returned (.int .u64 (keyF f)) ∧ Below w.heap.size w w' := by
  obtain ⟨t, k, n, s⟩ := f
  unfold ffC keyF
  dsimp only at t0 t1 k0 k1 ⊢
  go_enter Tryd.func63, Tryd.ntmps63
  go_wp2
  go_ret
  exact ⟨rfl, (Below.refl _ _).alloc (Nat.le_refl _) _⟩

/-- what the reference's length answers -/
def rlen (l : List Fd) : Nat := if 16777215 < (enc l).length then 16777216 else (enc l).length
theorem rlen_take {l : List Fd} {k : Nat} (h : 16777215 < (enc (l.take k)).length) : rlen l = 16777216 := by
  have h1 := enc_app (l.take k) (l.drop k)
  rw [List.take_append_drop] at h1
  have h2 := congrArg List.length h1
  rw [List.length_append] at h2
  unfold rlen; rw [if_pos (by omega)]

set_option maxRecDepth 100000 in
set_option maxHeartbeats 1000000 in
theorem rlen_any {w : World} {A : Option Addr} {l : List Fd} (c : Nat) (hA : FRow w w.heap.size A l) (hg : Good l) (hl : l.length ≤ 140737488355328) (hi : Is 0 l) :
    Calls Tryd.prog 46 #[.slice A l.length c] w fun e w' => e = .returned (.int .i64 (rlen l)) ∧ Below w.heap.size w w' := by
  obtain ⟨R, hR⟩ : ∃ R, rlen l = R := ⟨_, rfl⟩
  rw [hR]
  have HR := Lib.hid hR
  have HG := Lib.hid hg
  have hl0 := hl
  have HA := Lib.hid hA
  have HI := Lib.hid hi
  clear hR hg hl hA hi
  go_enter Tryd.func46, Tryd.ntmps46
  go_wp2
  go_loopw [3, 4] (fun n i wr => ∃ k z : Nat, n = .int .i64 z ∧ i = .int .i64 k ∧ k ≤ l.length ∧ z ≤ 16777215 ∧ Below w.heap.size w wr ∧ Hid (z = (enc (l.take k)).length)) (fun _ i _ => l.length - (intOf i).toNat)
  case atStart => exact ⟨0, 0, rfl, rfl, Nat.zero_le _, Nat.zero_le _, Below.refl _ _, by unfold Hid; rfl⟩
  case round =>
    obtain ⟨k, z, rfl, rfl, hk, hz, hB, HZ⟩ := hrel
    by_cases hlt : k < l.length
    · obtain ⟨f, hf⟩ : ∃ f, l[k]? = some f := ⟨l[k], List.getElem?_eq_getElem hlt⟩
      obtain ⟨g, o, rfl, hgB, hcs⟩ := (HA.out.below hB).at_ (by omega)
      obtain ⟨c0, c1, c2, c3⟩ := hcs k f hf
      obtain ⟨hfit, hsz⟩ := HG.out.at_ hf
      have hgr : g < wr.heap.size := by have := hB.size; omega
      clear hcs
      have his : Is 0 (l.take (k + 1)) := is_take (k + 1) HI.out
      have hsm := enc_small HG.out (k + 1) his
      rw [take_snoc hf] at his
      obtain ⟨i1, i2, _⟩ := is_snoc.1 his
      obtain ⟨t0, t1, k0, k1⟩ := can_key i2 (last_nn i1)
      have n3 : (enc (l.take (k + 1))).length = (enc (l.take k)).length + (fb f).length := by rw [take_snoc hf, enc_snoc, List.length_append]
      have hov := (can_parts i2).2.2
      have hfl := fb_length f
      have ck := fun (W : World) => rkey_any W f t0 t1 k0 k1
      have cp := fun (W : World) => rpay_any W f.v hov hfit
      have hk0 : 0 ≤ keyF f := by unfold keyF; omega
      have hk1 : keyF f ≤ 18446744073709551615 := by unfold keyF; omega
      obtain ⟨K, hK⟩ := Int.eq_ofNat_of_zero_le hk0
      rw [hK] at hfl hk1
      simp only [hK] at ck
      have hK2 : K ≤ 18446744073709551615 := by omega
      have v1 := vsz_le (x := K) (by omega)
      have hpy := pay_small hfit hsz
      obtain ⟨L, hL⟩ : ∃ L, (pay f.v).length = L := ⟨_, rfl⟩
      rw [hL] at hfl hpy
      simp only [hL] at cp
      have v2 := vsz_le (x := L) (by omega)
      rw [Int.toNat_natCast] at hfl
      rw [n3, ← HZ.out, hfl] at hsm
      rw [hfl, ← HZ.out] at n3
      obtain ⟨SK, hSK⟩ : ∃ s, vsz K = s := ⟨_, rfl⟩
      obtain ⟨SL, hSL⟩ : ∃ s, vsz L = s := ⟨_, rfl⟩
      have csk := fun (W : World) => rsize_any K W hK2
      have csl := fun (W : World) => rsize_any L W (by omega)
      rw [hSK, hSL] at hsm n3
      rw [hSK] at v1
      rw [hSL] at v2
      simp only [hSK] at csk
      simp only [hSL] at csl
      have HN := Lib.hid n3
      by_cases hlong : 16777215 < z + (SK + SL + L)
      · have HQ : Hid (R = 16777216) := HR.out.symm.trans (rlen_take (k := k + 1) (by rw [n3]; exact hlong))
        have hlz : (16777215 : Int) < (z : Int) + (SK : Int) + (SL : Int) + (L : Int) := by omega
        clear his i1 i2 t0 t1 k0 k1 n3 hov hfl hK hk0 hk1 hL hSK hSL hfit hsz hf hlong
        obtain ⟨t, v⟩ := f
        obtain ⟨vk, vn, vs⟩ := v
        unfold ffC vvC at *
        dsimp only at c0 c1 c2 c3 ck cp
        go_wp2_with (go_at_call 61; refine (cp _).mono ?_; rintro e w1 ⟨rfl, hb1⟩; obtain ⟨hc1, _⟩ := Below.cells hb1)
        go_wp2_with (go_at_call 63; refine (ck _).mono ?_; rintro e w2 ⟨rfl, hb2⟩)
        go_wp2_with (go_at_call 62; with_reducible refine (csk _).mono ?_; rintro e w3 ⟨rfl, rfl⟩)
        go_wp2_with (go_at_call 62; refine (csl _).mono ?_; rintro e w3 ⟨rfl, rfl⟩)
        go_ret
        exact ⟨ret_int (by have := HQ.out; omega), hB.trans ((Below.both hb1 hb2).mono hB.size)⟩
      · have hlz : ¬ ((16777215 : Int) < (z : Int) + (SK : Int) + (SL : Int) + (L : Int)) := by omega
        clear his i1 i2 t0 t1 k0 k1 n3 hov hfl hK hk0 hk1 hL hSK hSL hfit hsz hf
        obtain ⟨t, v⟩ := f
        obtain ⟨vk, vn, vs⟩ := v
        unfold ffC vvC at *
        dsimp only at c0 c1 c2 c3 ck cp
        go_wp2_with (go_at_call 61; refine (cp _).mono ?_; rintro e w1 ⟨rfl, hb1⟩; obtain ⟨hc1, _⟩ := Below.cells hb1)
        go_wp2_with (go_at_call 63; refine (ck _).mono ?_; rintro e w2 ⟨rfl, hb2⟩)
        go_wp2_with (go_at_call 62; with_reducible refine (csk _).mono ?_; rintro e w3 ⟨rfl, rfl⟩)
        go_wp2_with (go_at_call 62; refine (csl _).mono ?_; rintro e w3 ⟨rfl, rfl⟩)
        go_roundw
        case rel => exact ⟨k + 1, z + (SK + SL + L), by go_num, by go_num, by omega, by omega, hB.trans ((Below.both hb1 hb2).mono hB.size), HN.out.symm⟩
        case measure => simp [intOf]; omega
    · obtain rfl : k = l.length := by omega
      have HQ : Hid (R = z) := by
        have h1 := HZ.out
        rw [List.take_length] at h1
        have h2 := HR.out
        unfold rlen at h2
        rw [if_neg (by omega)] at h2
        unfold Hid
        omega
      go_wp2
      go_ret
      exact ⟨ret_int (by have := HQ.out; omega), hB⟩
end Go.Proofs.YtnflbnchkcigiaaDoor
