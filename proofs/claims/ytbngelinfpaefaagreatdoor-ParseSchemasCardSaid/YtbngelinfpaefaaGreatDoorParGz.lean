/- The frame of a version or an event of the reference: its head, its place, its list. No walk of a function here. -/
import Derived.Test.YtbngelinfpaefaaGreatDoorParRStep
import Derived.Test.YtbngelinfpaefaaGreatDoorParGi
namespace Go.Proofs.YtbngelinfpaefaaGreatDoor
open Go.RowKit

/-- the frame: the parser, the answer's block, the struct's block, its list with all that it owns -/
structure GZ {α : Type} (L : Lev α) (TS : TypeId) (z : Value) (w0 w : World) (g : Nat) (A : Option Addr) (c : Nat) (T : List Tk) (q : PS) (b2 b3 : Nat) (hd : Value) (a : Nat) (As : Option Addr) (cs : Nat) (l : List α) : Prop where
  rs : RZ w g A c T q
  r2 : CB w b2 TS #[z, .slice none 0 0, .int .i64 0]
  s3 : CB w b3 TS #[hd, .slice As l.length cs, .int .i64 (a : Nat)]
  gn : Gn g w0 w
  bt : Built L w w0.heap.size As cs l
  g0 : g < w0.heap.size
  b20 : w0.heap.size ≤ b2
  b30 : w0.heap.size ≤ b3
  ne : b2 ≠ b3
  far : ∀ b ∈ L.bls As l, b ≠ b2 ∧ b ≠ b3
  few : l.length ≤ q.i + 1 ∧ (q.flt = 0 → l.length ≤ q.i)
section
variable {α : Type} {L : Lev α} (O : L.Ok) {TS : TypeId} {z : Value} {w0 w w' : World} {g : Nat} {A : Option Addr} {c : Nat} {T : List Tk} {q q' : PS} {b2 b3 : Nat} {hd : Value} {a : Nat} {As : Option Addr} {cs : Nat} {l : List α}
include O
theorem GZ.call (h : GZ L TS z w0 w g A c T q b2 b3 hd a As cs l) (hg : Gn g w w') (hr : RZ w' g A c T q') (hi : Go_ q q') : GZ L TS z w0 w' g A c T q' b2 b3 hd a As cs l := by
  have := h.g0
  have := h.b20
  have := h.b30
  refine ⟨hr, h.r2.keep (hg.other h.r2.len (by omega)), h.s3.keep (hg.other h.s3.len (by omega)), h.gn.trans hg, h.bt.keep O fun b hb => ?_, h.g0, h.b20, h.b30, h.ne, h.far, Nat.le_trans h.few.1 (by have := hi.1; omega), fun k => Nat.le_trans (h.few.2 (flt_back hi k)) hi.1⟩
  have := h.bt.bd O b hb
  exact hg.other this.2 (by omega)
/-- the head written -/
theorem GZ.head (h : GZ L TS z w0 w g A c T q b2 b3 hd a As cs l) (v : Value) : GZ L TS z w0 (w.setCell ⟨b3, 0, none⟩ v) g A c T q b2 b3 v a As cs l := by
  have := h.g0
  have := h.b20
  have := h.b30
  have hg : Gn b3 w (w.setCell ⟨b3, 0, none⟩ v) := (Gn.refl b3 w).set 0 v
  have hgr := h.rs.len
  have hl3 := h.s3.len
  refine ⟨h.rs.keep (hg.below (by omega) (by omega)) (hg.other hgr (by omega)), h.r2.keep (hg.other h.r2.len h.ne), heap_setCell_same w b3 0 _ _ v h.s3, ⟨hg.os.trans h.gn.os, hg.tape.trans h.gn.tape, hg.output.trans h.gn.output, Nat.le_trans h.gn.size hg.size, fun k hk hne => (hg.other (Nat.lt_of_lt_of_le hk h.gn.size) (by omega)).trans (h.gn.block k hk hne)⟩, h.bt.keep O fun b hb => ?_, h.g0, h.b20, h.b30, h.ne, h.far, h.few⟩
  have := h.bt.bd O b hb
  exact hg.other this.2 (h.far b hb).2
/-- one part more -/
theorem GZ.item {tt : TypeId} (app : AppLaw L tt) (h : GZ L TS z w0 w g A c T q b2 b3 hd a As cs l) {w5 : World} {x : α} (hg : Gn g w w5) (hr : RZ w5 g A c T q') (hH : L.H w5 w.heap.size x) (hi : Go_ q q') (hfew : l.length + 1 ≤ q'.i + 1 ∧ (q'.flt = 0 → l.length + 1 ≤ q'.i)) :
    ∃ g4 c4 w6, AppRun tt L.T w5 As l.length cs (L.f x) g4 c4 w6 ∧ w5.cell? ⟨b3, 1, none⟩ = some (.slice As l.length cs) ∧ b3 < w5.heap.size ∧ w6.cell? ⟨b3, 1, none⟩ = some (.slice As l.length cs) ∧ w6.frozen? ⟨b3, 1, none⟩ = false ∧
      GZ L TS z w0 (w6.setCell ⟨b3, 1, none⟩ (.slice (some ⟨g4, 0, none⟩) (l.length + 1) c4)) g A c T q' b2 b3 hd a (some ⟨g4, 0, none⟩) c4 (l ++ [x]) := by
  have h5 := h.call O hg hr hi
  have := h.g0
  have := h.b20
  have := h.b30
  have hlT : q'.i < T.length := hr.pt.inn
  have hlT2 := hr.pt.few
  have hf1 := hfew.1
  have hbx := O.bd hH
  have hw := h.gn.size
  obtain ⟨g4, c4, w6, hrun, hB6, hat, hgr⟩ := app h5.bt x (O.low hH hw) (fun b hb hb2 => by have := (hbx b hb).1; have := (h.bt.bd O b hb2).2; omega) (by omega) h5.gn.size
  have hl2 := h5.r2.len
  have hl3 := h5.s3.len
  have hgl := hr.len
  have hna : ∀ b, b < w5.heap.size → (b = b2 ∨ b = b3 ∨ b < w0.heap.size) → obk As ≠ some b := fun b hb hb2 e => by
    have hm : b ∈ L.bls As l := mem_bls.2 (.inl e)
    have := h.far b hm
    have := (h.bt.bd O b hm).1
    omega
  have k2 : w6.heap[b2]? = w5.heap[b2]? := hgr.block b2 hl2 fun e => hna b2 hl2 (.inl rfl) e.symm
  have k3 : w6.heap[b3]? = w5.heap[b3]? := hgr.block b3 hl3 fun e => hna b3 hl3 (.inr (.inl rfl)) e.symm
  have kg : w6.heap[g]? = w5.heap[g]? := hgr.block g hgl fun e => hna g hgl (.inr (.inr h.g0)) e.symm
  have hs6 := hgr.size
  have h63 : CB w6 b3 TS #[hd, .slice As l.length cs, .int .i64 (a : Nat)] := h5.s3.keep k3
  have hb6 : Below w0.heap.size w5 w6 := ⟨hgr.os, hgr.tape, hgr.output, hgr.size, fun b hb => hgr.block b (by have := h5.gn.size; omega) fun e => hna b (by have := h5.gn.size; omega) (.inr (.inr hb)) e.symm⟩
  have hg7 : Gn b3 w6 (w6.setCell ⟨b3, 1, none⟩ (.slice (some ⟨g4, 0, none⟩) (l.length + 1) c4)) := (Gn.refl b3 w6).set 1 _
  refine ⟨g4, c4, w6, hrun, h5.s3.at_ 1, hl3, h63.at_ 1, h63.frozen 1, ⟨?_, ?_, ?_, ?_, ?_, h.g0, h.b20, h.b30, h.ne, fun b hb => ?_, ?_⟩⟩
  · have hr6 : RZ w6 g A c T q' := hr.keep (hb6.mono (by omega)) kg
    exact hr6.keep (hg7.below (by omega) (by omega)) (hg7.other hr6.len (by omega))
  · exact (h5.r2.keep k2).keep (hg7.other (by omega) h.ne)
  · have := heap_setCell_same w6 b3 1 _ _ (.slice (some ⟨g4, 0, none⟩) (l.length + 1) c4) h63
    unfold CB
    rw [List.length_append]
    exact this
  · exact ⟨hg7.os.trans (hb6.os.trans h5.gn.os), hg7.tape.trans (hb6.tape.trans h5.gn.tape), hg7.output.trans (hb6.output.trans h5.gn.output), Nat.le_trans h5.gn.size (Nat.le_trans hb6.size hg7.size), fun k hk hne => ((hg7.other (by have := h5.gn.size; omega) (by omega)).trans (hb6.block k hk)).trans (h5.gn.block k hk hne)⟩
  · refine hB6.keep O fun b hb => hg7.other (hB6.bd O b hb).2 ?_
    rcases mem_bls.1 hb with e | ⟨y, hy, e⟩
    · obtain rfl : g4 = b := Option.some.inj e
      rcases hat with e2 | e2
      · exact (h.far g4 (mem_bls.2 (.inl e2))).2
      · omega
    · rcases List.mem_append.1 hy with hy | hy
      · exact (h.far b (mem_bls.2 (.inr ⟨y, hy, e⟩))).2
      · rw [List.mem_singleton] at hy
        subst hy
        have := (hbx b e).1
        have := h.s3.len
        omega
  · rcases mem_bls.1 hb with e | ⟨y, hy, e⟩
    · obtain rfl : g4 = b := Option.some.inj e
      rcases hat with e2 | e2
      · exact h.far g4 (mem_bls.2 (.inl e2))
      · omega
    · rcases List.mem_append.1 hy with hy | hy
      · exact h.far b (mem_bls.2 (.inr ⟨y, hy, e⟩))
      · rw [List.mem_singleton] at hy
        subst hy
        have := (hbx b e).1
        have := h.s3.len
        have := h.r2.len
        omega
  · rw [List.length_append]
    exact hfew
/-- the answer stored -/
theorem GZ.close (h : GZ L TS z w0 w g A c T q b2 b3 hd a As cs l) (t : Turned b2 w w') : RZ w' g A c T q ∧ Gn g w0 w' ∧ Built L w' w0.heap.size As cs l := by
  have := h.g0
  have := h.b20
  have hg : Gn b2 w w' := t.grown
  have hgr := h.rs.len
  have hl2 := h.r2.len
  refine ⟨h.rs.keep (hg.below (by omega) (by omega)) (hg.other hgr (by omega)), ⟨hg.os.trans h.gn.os, hg.tape.trans h.gn.tape, hg.output.trans h.gn.output, Nat.le_trans h.gn.size hg.size, fun k hk hne => (hg.other (Nat.lt_of_lt_of_le hk h.gn.size) (by omega)).trans (h.gn.block k hk hne)⟩, h.bt.keep O fun b hb => ?_⟩
  have := h.bt.bd O b hb
  exact hg.other this.2 (h.far b hb).1
omit O in
/-- the struct just laid -/
theorem gz_start (hr : RZ w g A c T q) (h2 : CB w b2 TS #[z, .slice none 0 0, .int .i64 0]) (hg : Gn g w0 w) (g0 : g < w0.heap.size) (b20 : w0.heap.size ≤ b2) (hd : Value) (a : Nat) :
    GZ L TS z w0 (w.alloc (.cells #[hd, .slice none 0 0, .int .i64 (a : Nat)] TS)) g A c T q b2 w.heap.size hd a none 0 [] := by
  have hb : Below w.heap.size w (w.alloc (.cells #[hd, .slice none 0 0, .int .i64 (a : Nat)] TS)) := (Below.refl _ w).alloc (Nat.le_refl _) _
  refine ⟨hr.below hb, h2.below hb, CB.new w _ _, hg.trans (Gn.of hb), Built.nil L _ _, g0, b20, hg.size, by have := h2.len; omega, fun b hb => ?_, ⟨Nat.zero_le _, fun _ => Nat.zero_le _⟩⟩
  simp [Lev.bls, obk] at hb
end
end Go.Proofs.YtbngelinfpaefaaGreatDoor
