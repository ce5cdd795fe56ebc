/- A script in memory; the walk of RollApart. -/
import Derived.Test.YtgdeeojamnbakaaRollLaw
namespace Go.Proofs.Ytgdeeojamnbakaa
open Go.RowKit

/-- One call of a script. -/
structure Rec where
  kind : Int
  on : Int
  fam : Int
  name : ByteArray
  size : Int

/-- The script's value, and what lies behind it. -/
def Script (w : World) (ao : Option Addr) (l : List Rec) : Prop :=
  l.length ≤ maxLen ∧ ∀ (i : Nat) (r : Rec), l[i]? = some r → ∃ g off, ao = some ⟨g, off, none⟩ ∧ g < w.heap.size ∧
    w.cell? ⟨g, off + i * 5, none⟩ = some (.int .i64 r.kind) ∧ w.cell? ⟨g, off + i * 5 + 1, none⟩ = some (.int .i64 r.on) ∧ w.cell? ⟨g, off + i * 5 + 2, none⟩ = some (.int .i64 r.fam) ∧
    w.cell? ⟨g, off + i * 5 + 3, none⟩ = some (.string r.name) ∧ w.cell? ⟨g, off + i * 5 + 4, none⟩ = some (.int .i64 r.size) ∧ r.name.size ≤ maxLen

theorem Script.below {w w' : World} {ao : Option Addr} {l : List Rec} (h : Script w ao l) (hB : Below w.heap.size w w') : Script w' ao l := by
  refine ⟨h.1, fun i r hr => ?_⟩
  obtain ⟨g, off, ha, hg, h0, h1, h2, h3, h4, hs⟩ := h.2 i r hr
  refine ⟨g, off, ha, Nat.lt_of_lt_of_le hg hB.size, ?_, ?_, ?_, ?_, ?_, hs⟩
  · exact (hB.cell (p := ⟨g, _, none⟩) hg).trans h0
  · exact (hB.cell (p := ⟨g, _, none⟩) hg).trans h1
  · exact (hB.cell (p := ⟨g, _, none⟩) hg).trans h2
  · exact (hB.cell (p := ⟨g, _, none⟩) hg).trans h3
  · exact (hB.cell (p := ⟨g, _, none⟩) hg).trans h4

theorem below_alloc (w : World) (o : Obj) : Below w.heap.size w (w.alloc o) := (Below.refl _ _).alloc (Nat.le_refl _) _

theorem Book.self {w : World} {b : Nat} {S : List Nat} {es : List Ent} {cl : Nat → Bool} (h : Book w b S es cl) : b ∈ S := by
  obtain ⟨v, _, _, _, rfl, _⟩ := h
  simp

/-- One book is made of blocks that are the call's own, another one stands apart. -/
def ApRel (w : World) (p q : Nat) (wr : World) : Prop :=
  ∃ S es cl, Book wr p S es cl ∧ (∀ k ∈ S, w.heap.size ≤ k ∧ k ≠ q) ∧ Book wr q [q] [] allOpen ∧ Below w.heap.size w wr

theorem ApRel.below {w wr w' : World} {p q : Nat} (h : ApRel w p q wr) (hB : Below wr.heap.size wr w') : ApRel w p q w' := by
  obtain ⟨S, es, cl, hk, hs, hq, hb⟩ := h
  exact ⟨S, es, cl, hk.below hB, hs, hq.below hB, hb.trans (hB.mono hb.size)⟩

/-- The first book is written to. -/
theorem ApRel.step {w wr w' : World} {p q : Nat} {S S' : List Nat} {es' : List Ent} {cl' : Nat → Bool} (hs : ∀ k ∈ S, w.heap.size ≤ k ∧ k ≠ q) (hq : Book wr q [q] [] allOpen) (hb : Below w.heap.size w wr)
    (hk' : Book w' p S' es' cl') (ho : Only S wr w') (hm : ∀ k ∈ S', k ∈ S ∨ wr.heap.size ≤ k) : ApRel w p q w' := by
  have hqs := hq.mem q (by simp)
  refine ⟨S', es', cl', hk', fun k hk => ?_, hq.only ho (fun k hk hk2 => ?_), ?_⟩
  · rcases hm k hk with h | h
    · exact hs k h
    · have := hb.size
      exact ⟨by omega, by omega⟩
  · simp at hk
    exact (hs k hk2).2 hk
  · refine hb.trans ⟨ho.os, ho.tape, ho.output, ho.size, fun k hk => ho.block k (by have := hb.size; omega) (fun hm2 => ?_)⟩
    have := (hs k hm2).1
    omega

/-- Two books, both new. -/
def TwoNew (w : World) (q r : Nat) (wr : World) : Prop :=
  Book wr q [q] [] allOpen ∧ Book wr r [r] [] allOpen ∧ q ≠ r ∧ Below w.heap.size w wr ∧ w.heap.size ≤ q

theorem TwoNew.below {w wr w' : World} {q r : Nat} (h : TwoNew w q r wr) (hB : Below wr.heap.size wr w') : TwoNew w q r w' := by
  obtain ⟨h1, h2, h3, h4, h5⟩ := h
  exact ⟨h1.below hB, h2.below hB, h3, h4.trans (hB.mono h4.size), h5⟩

def nmZ : ByteArray := ⟨#[122]⟩
def esZ : List Ent := [⟨5, 1, nmZ, 0⟩]
theorem cnt_nil (f : Int) : ((cnt f [] : Nat) : Int) = 0 := rfl

/-- One of them has an entry now. -/
def OneNew (w : World) (q r : Nat) (wr : World) : Prop :=
  ∃ S, Book wr q S esZ allOpen ∧ Book wr r [r] [] allOpen ∧ Below w.heap.size w wr

theorem TwoNew.entered {w wr w' : World} {q r : Nat} {S : List Nat} (h : TwoNew w q r wr) (hk : Book w' q S esZ allOpen) (ho : Only [q] wr w') (_hm : ∀ k ∈ S, k ∈ [q] ∨ wr.heap.size ≤ k) : OneNew w q r w' := by
  obtain ⟨h1, h2, h3, h4, h5⟩ := h
  refine ⟨S, hk, h2.only ho (by simp; omega), h4.trans ⟨ho.os, ho.tape, ho.output, ho.size, fun k hk => ho.block k (by have := h4.size; omega) (by simp; omega)⟩⟩

set_option maxHeartbeats 1000000 in
theorem apart_any (ao : Option Addr) (cap : Nat) (l : List Rec) (w : World) (hs : Script w ao l) :
    Calls Try.prog 7 #[.slice ao l.length cap] w fun e w' => e = .returned (.bool true) ∧ Below w.heap.size w w' := by
  have hl := hs.1
  unfold maxLen at hl
  have HS := Lib.hid hs
  clear hs
  go_enter Try.func7, Try.ntmps7
  go_wp2_with (go_at_call 8; refine (awake_any _).mono ?_; rintro e w0 ⟨rfl, hB0⟩)
  refine (new_any _).mono ?_
  rintro e w1 ⟨rfl, hk1, hB1⟩
  have HK1 := Lib.hid hk1
  clear hk1
  go_wp2_with fail
  refine (new_any _).mono ?_
  rintro e w2 ⟨rfl, hk2, hB2⟩
  have HK2 := Lib.hid hk2
  clear hk2
  have h0 : ApRel w w0.heap.size w1.heap.size w2 :=
    ⟨_, _, _, HK1.out.below hB2, fun k hk => by simp at hk; subst hk; exact ⟨hB0.size, by have := HK1.out.mem w0.heap.size (by simp); omega⟩, HK2.out, (hB0.trans (hB1.mono hB0.size)).trans (hB2.mono (by have := hB0.size; have := hB1.size; omega))⟩
  have hB02 : Below w.heap.size w w2 := (hB0.trans (hB1.mono hB0.size)).trans (hB2.mono (by have := hB0.size; have := hB1.size; omega))
  have H0 := Lib.hid h0
  have S0 := Lib.hid (show w.heap.size ≤ w1.heap.size from by have := hB0.size; have := hB1.size; omega)
  clear h0
  obtain ⟨p, hp⟩ : ∃ p, p = w0.heap.size := ⟨_, rfl⟩
  obtain ⟨q, hq⟩ : ∃ q, q = w1.heap.size := ⟨_, rfl⟩
  go_wp2_with fail
  rw [← hp, ← hq] at H0 ⊢
  rw [← hq] at S0
  clear hp hq HK1 HK2
  go_loopw [5] (fun i wr => ∃ k : Nat, k ≤ l.length ∧ i = .int .i64 k ∧ Hid (ApRel w p q wr)) (fun i _ => l.length - (intOf i).toNat)
  case atStart => exact ⟨0, Nat.zero_le _, rfl, H0⟩
  case round =>
    obtain ⟨k, hk, rfl, HA⟩ := hrel
    by_cases hlt : k < l.length
    · obtain ⟨S, es, cl, hbk, hS, hq, hBw⟩ := HA.out
      obtain ⟨g, off, rfl, hg, h0, h1, h2, h3, h4, hn⟩ := (HS.out.below hBw).2 k l[k] (by simp)
      have HBK := Lib.hid hbk
      have HSS := Lib.hid hS
      have HQ := Lib.hid hq
      have HBW := Lib.hid hBw
      clear hbk hS hq hBw
      cases hkind : (l[k].kind == 2)
      · go_wp2_with fail
        refine (enter_any (HBK.out.below (below_alloc _ _)) _ _ _ hn).mono ?_
        rintro e w3 ⟨S', es', n, rfl, hk', ho, hm, hd⟩
        have HA' := Lib.hid (ApRel.step HSS.out (HQ.out.below (below_alloc _ _)) (HBW.out.trans ((below_alloc _ _).mono HBW.out.size)) hk' ho hm)
        clear hk' ho hm hd
        go_wp2_with fail
        go_roundw
        case rel => exact ⟨k + 1, by omega, by go_num, HA'⟩
        case measure => simp [intOf]; omega
      · go_wp2_with fail
        refine (close_any (HBK.out.below (below_alloc _ _)) _).mono ?_
        rintro e w3 ⟨rfl, hk', ho⟩
        have HA' := Lib.hid (ApRel.step HSS.out (HQ.out.below (below_alloc _ _)) (HBW.out.trans ((below_alloc _ _).mono HBW.out.size)) hk' (ho.weaken (fun k _ hk => by simp at hk; subst hk; exact HBK.out.self)) (fun k hk => .inl hk))
        clear hk' ho
        go_wp2_with fail
        go_roundw
        case rel => exact ⟨k + 1, by omega, by go_num, HA'⟩
        case measure => simp [intOf]; omega
    · go_wp2_with fail
      refine (new_any _).mono ?_
      rintro e w3 ⟨rfl, hk3, hB3⟩
      have h3 : TwoNew w q wr.heap.size w3 := by
        obtain ⟨S, es, cl, hbk, hS, hq, hBw⟩ := HA.out
        exact ⟨hq.below hB3, hk3, by have := hq.mem q (by simp); omega, hBw.trans (hB3.mono hBw.size), S0.out⟩
      have H3 := Lib.hid h3
      clear h3
      obtain ⟨r, hr⟩ : ∃ r, r = wr.heap.size := ⟨_, rfl⟩
      rw [← hr] at H3 ⊢
      clear HA hr hk3 hB3
      go_wp2_with fail
      go_loopw [8] (fun i wr => ∃ k : Nat, 1 ≤ k ∧ k ≤ 6 ∧ i = .int .i64 k ∧ Hid (TwoNew w q r wr)) (fun i _ => 6 - (intOf i).toNat)
      case atStart => exact ⟨1, by omega, by omega, rfl, H3⟩
      case round =>
        obtain ⟨k, hk1, hk6, rfl, HT⟩ := hrel
        by_cases hlt6 : k < 6
        · have ho : openF allOpen ((k : Nat) : Int) = true := by simp [openF, famOk, allOpen]; omega
          have HO := Lib.hid ho
          clear ho
          go_wp2_with fail
          refine (open_any HT.out.1 _).mono ?_
          rintro e w4 ⟨rfl, rfl⟩
          rw [HO.out]
          go_wp2_with fail
          refine (count_any HT.out.1 _).mono ?_
          rintro e w5 ⟨rfl, hB5⟩
          rw [cnt_nil]
          have HT5 := Lib.hid (HT.out.below hB5)
          clear HT hB5
          go_wp2_with fail
          refine (open_any HT5.out.2.1 _).mono ?_
          rintro e w6 ⟨rfl, rfl⟩
          rw [HO.out]
          go_wp2_with fail
          refine (count_any HT5.out.2.1 _).mono ?_
          rintro e w7 ⟨rfl, hB7⟩
          rw [cnt_nil]
          have HT7 := Lib.hid (HT5.out.below hB7)
          clear HT5 hB7
          go_wp2_with fail
          go_roundw
          case rel => exact ⟨k + 1, by omega, by omega, by go_num, HT7⟩
          case measure => simp [intOf]; omega
        · obtain rfl : k = 6 := by omega
          go_wp2_with fail
          refine (enter_tookN HT.out.1 5 nmZ 0 (by decide) (by decide) 1 rfl esZ rfl).mono ?_
          rintro e w4 ⟨S4, rfl, hk4, ho4, hm4⟩
          have hT4 : OneNew w q r w4 := HT.out.entered hk4 ho4 hm4
          have HT4 := Lib.hid hT4
          clear hT4 hk4 ho4 hm4 HT
          go_wp2_with fail
          obtain ⟨S5, hq5, hr5, hb5⟩ := HT4.out
          have HR5 := Lib.hid (And.intro hr5 hb5)
          clear hr5 hb5
          refine (all_any hq5).mono ?_
          rintro e w5 ⟨v5, rfl, hv5, hB5⟩
          obtain ⟨g5, c5, rfl⟩ : ∃ g c, v5 = .slice (some ⟨g, 0, none⟩) 1 c := by
            rcases rows_form hv5 with ⟨_, h⟩ | ⟨g, c, rfl, _⟩
            · exact absurd h (by decide)
            · exact ⟨g, c, rfl⟩
          have HR6 := Lib.hid (And.intro (HR5.out.1.below hB5) (HR5.out.2.trans (hB5.mono HR5.out.2.size)))
          clear hv5 HR5 hB5
          go_wp2_with fail
          refine (all_any HR6.out.1).mono ?_
          rintro e w6 ⟨v6, rfl, hv6, hB6⟩
          obtain ⟨a6, c6, rfl⟩ : ∃ a c, v6 = .slice a 0 c := by
            rcases rows_form hv6 with ⟨rfl, _⟩ | ⟨g, c, rfl, _⟩
            · exact ⟨_, _, rfl⟩
            · exact ⟨_, _, rfl⟩
          have HR7 := Lib.hid (HR6.out.2.trans (hB6.mono HR6.out.2.size))
          clear hv6 HR6 hB6
          go_wp2_with fail
          go_ret
          exact ⟨rfl, HR7.out⟩

end Go.Proofs.Ytgdeeojamnbakaa
