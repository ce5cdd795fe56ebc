/- The walks of much and ConvAll. -/
import Derived.Test.YtijgcfnjbfaelaaDoorConvAwake
import Derived.Deep.RegionWith
import Derived.Deep.DeepCutAuto
import Derived.Deep.QuietTactic
import Derived.BigQuiet
namespace Go.Proofs.YtijgcfnjbfaelaaDoor
open Go.RowKit

/-- one conversion of a value -/
structure Opn where
  n : Int
  v : Val
def OCell (w : World) (g o : Nat) (f : Opn) : Prop :=
  w.cell? ⟨g, o, none⟩ = some (.int .i64 f.n) ∧ w.cell? ⟨g, o + 1, none⟩ = some (.int .i64 f.v.k) ∧ w.cell? ⟨g, o + 2, none⟩ = some (.int .u64 f.v.n) ∧ w.cell? ⟨g, o + 3, none⟩ = some (.string f.v.s)
/-- at the address A stand these, below block B -/
def ORow (w : World) (B : Nat) (A : Option Addr) (l : List Opn) : Prop :=
  l = [] ∨ ∃ g o, A = some ⟨g, o, none⟩ ∧ g < B ∧ ∀ (i : Nat) (f : Opn), l[i]? = some f → OCell w g (o + i * 4) f
section
variable {w w' : World} {B B' : Nat} {A : Option Addr} {l : List Opn}
theorem ORow.nil : ORow w B A [] := .inl rfl
theorem ORow.at_ (h : ORow w B A l) (hl : 0 < l.length) : ∃ g o, A = some ⟨g, o, none⟩ ∧ g < B ∧ ∀ (i : Nat) (f : Opn), l[i]? = some f → OCell w g (o + i * 4) f := by
  rcases h with rfl | h
  · simp at hl
  · exact h
theorem ORow.below (h : ORow w B A l) (hb : Below B w w') : ORow w' B A l := by
  rcases h with rfl | ⟨g, o, rfl, hg, hc⟩
  · exact .inl rfl
  · refine .inr ⟨g, o, rfl, hg, fun i f hf => ?_⟩
    obtain ⟨a, b, c, d⟩ := hc i f hf
    exact ⟨(hb.cell (p := ⟨g, _, none⟩) hg).trans a, (hb.cell (p := ⟨g, _, none⟩) hg).trans b, (hb.cell (p := ⟨g, _, none⟩) hg).trans c, (hb.cell (p := ⟨g, _, none⟩) hg).trans d⟩
end
/-- every number is one of 64 bits, every text of a size that is met -/
def GoodO (l : List Opn) : Prop := ∀ f ∈ l, Fit64 f.v ∧ f.v.s.size ≤ 140737488355328

theorem below_of_alloc {w w' : World} (o : Obj) (b : Below (w.alloc o).heap.size (w.alloc o) w') : Below w.heap.size w w' := ((Below.refl _ _).alloc (Nat.le_refl _) o).trans (b.mono (by simp))
/-- the call answers yes or no -/
def SomeB (e : Ending) : Prop := ∃ b, e = .returned (.bool b)
theorem Below.new' {a w : World} (h : Below a.heap.size a w) (o : Obj) : Below a.heap.size a (w.alloc o) := h.alloc h.size o
set_option maxRecDepth 100000 in
set_option maxHeartbeats 1000000 in
theorem much_any (w : World) {B : Nat} {A : Option Addr} {l : List Opn} (c : Nat) (hA : ORow w B A l) (hg : GoodO l) (hl : l.length ≤ 140737488355328) :
    Calls Tryd.prog 21 #[.slice A l.length c] w fun e w' => SomeB e ∧ w = w' := by
  have HA := Lib.hid hA
  have HG := Lib.hid hg
  clear hA hg
  go_enter Tryd.func21, Tryd.ntmps21
  go_wp2
  go_loop [3, 4] (fun n i => ∃ t k : Nat, n = .int .i64 t ∧ i = .int .i64 k ∧ k ≤ l.length ∧ t ≤ 140737505132544) (fun _ i => l.length - (intOf i).toNat)
  case atStart => exact ⟨0, 0, rfl, rfl, Nat.zero_le _, Nat.zero_le _⟩
  case round =>
    obtain ⟨t, k, rfl, rfl, hk, ht⟩ := hrel
    by_cases hlt : k < l.length
    · have hltz : (k : Int) < (l.length : Int) := by omega
      by_cases hn : t ≤ 16777216
      · have hnz : (t : Int) ≤ 16777216 := by omega
        obtain ⟨f, hf⟩ : ∃ f, l[k]? = some f := ⟨l[k], List.getElem?_eq_getElem hlt⟩
        obtain ⟨g, o, rfl, _, hcs⟩ := HA.out.at_ (by omega)
        obtain ⟨c0, c1, c2, c3⟩ := hcs k f hf
        have hsz := (HG.out f (List.mem_of_getElem? hf)).2
        clear hcs hf
        go_wp2
        go_round
        case rel => exact ⟨t + f.v.s.size, k + 1, by go_num, by go_num, by omega, by omega⟩
        case measure => simp [intOf]; omega
      · have hnz : ¬ (t : Int) ≤ 16777216 := by omega
        go_wp2
        go_ret
        exact ⟨⟨_, rfl⟩, rfl⟩
    · have hltz : ¬ (k : Int) < (l.length : Int) := by omega
      go_wp2
      go_ret
      exact ⟨⟨_, rfl⟩, rfl⟩

set_option maxRecDepth 100000 in
set_option maxHeartbeats 16000000 in
theorem alllaw_any {w : World} (h : CSt w w) {A : Option Addr} {l : List Opn} (c : Nat) (hA : ORow w w.heap.size A l) (hg : GoodO l) (hl : l.length ≤ 140737488355328) :
    Calls Tryd.prog 4 #[.slice A l.length c] w (Yes w) := by
  have HA := Lib.hid hA
  have HG := Lib.hid hg
  clear hA hg
  go_enter Tryd.func4, Tryd.ntmps4
  go_wp2_with fail
  refine (awake_any h).mono ?_
  rintro e w1 ⟨rfl, k1⟩
  go_wp2_with fail
  refine (much_any w1 c (HA.out.below k1.below) HG.out hl).mono ?_
  rintro e w2 ⟨⟨b, rfl⟩, rfl⟩
  cases b with
  | true =>
    go_wp2_with fail
    go_ret
    exact ⟨rfl, k1.below⟩
  | false =>
    go_wp2_with fail
    go_loopw [3, 4] (fun ok i wr => ∃ k : Nat, ok = .bool true ∧ i = .int .i64 k ∧ k ≤ l.length ∧ CSt w wr) (fun _ i _ => l.length - (intOf i).toNat)
    case atStart => exact ⟨0, rfl, rfl, Nat.zero_le _, k1⟩
    case round =>
      obtain ⟨k, rfl, rfl, hk, kr⟩ := hrel
      clear k1
      by_cases hlt : k < l.length
      · have hltz : (k : Int) < (l.length : Int) := by omega
        have k0 : (0 : Int) ≤ (k : Int) := by omega
        obtain ⟨f, hf⟩ : ∃ f, l[k]? = some f := ⟨l[k], List.getElem?_eq_getElem hlt⟩
        obtain ⟨hfit, hsz⟩ := HG.out f (List.mem_of_getElem? hf)
        obtain ⟨g, o, rfl, hgB, hcs⟩ := (HA.out.below kr.below).at_ (by omega)
        obtain ⟨c0, c1, c2, c3⟩ := hcs k f hf
        have hgr : g < wr.heap.size := Nat.lt_of_lt_of_le hgB kr.below.size
        clear hcs hf
        obtain ⟨n, kk, m, s⟩ := f
        dsimp only at c0 c1 c2 c3 hfit hsz
        obtain ⟨E, x, y, z, hc⟩ : ∃ E x y z, capp n ⟨kk, m, s⟩ = (E, ⟨x, y, z⟩) := ⟨_, _, _, _, rfl⟩
        have HC := Lib.hid (And.intro hfit (And.intro hsz hc))
        clear hfit hsz hc
        go_upto_region 7 with fail
        go_cut [5, 6] (fun s5 s6 wx => ∃ g5 : Nat, s5 = .pointer (some ⟨g5, 0, none⟩) ∧ s6 = .int .i64 E ∧ wr.heap.size ≤ g5 ∧ Below wr.heap.size wr wx ∧ VBlk wx g5 ⟨x, y, z⟩)
        case first =>
          go_region_with (first
            | (go_at_call 11; refine (c_apply (by first | exact kr | exact kr.drew | exact kr.new _ | exact kr.drew.new _) HC.out.1 HC.out.2.1 HC.out.2.2).mono ?_; rintro e w5 ⟨rfl, k5, b5⟩; first
                | (have bw : Below wr.heap.size wr w5 := (Below.refl _ wr).drew.trans (below_of_alloc (w := wr.drew) _ b5); have hz : VBlk w5 wr.heap.size v0 := (b5.block wr.heap.size (show wr.heap.size < (wr.alloc (.cells (vaC v0) 24)).heap.size by simp)).trans (VBlk.new wr v0); have z0 : w5.cell? ⟨wr.heap.size, 0, none⟩ = some (.int .i64 0) := hz.cells.1; have z1 : w5.cell? ⟨wr.heap.size, 1, none⟩ = some (.int .u64 0) := hz.cells.2.1; have z2 : w5.cell? ⟨wr.heap.size, 2, none⟩ = some (.string ⟨#[]⟩) := hz.cells.2.2; have z3 := hz.frozen)
                | (have bw : Below wr.heap.size wr w5 := (Below.refl _ wr).drew.trans (b5.mono (Nat.le_refl _)))))
          all_goals (go_wp2_with fail; go_meet; first
            | exact ⟨wr.heap.size, rfl, rfl, Nat.le_refl _, bw.trans ((Turned.setCells (vaC ⟨x, y, z⟩).toList 0 w5 (Turned.refl wr.heap.size w5)).below (Nat.le_refl _)), hz.set ⟨x, y, z⟩⟩
            | exact ⟨w5.heap.size, rfl, rfl, bw.size, Below.new' bw _, VBlk.new w5 ⟨x, y, z⟩⟩)
        case rest =>
          obtain ⟨g5, rfl, rfl, hg5, hb, hv5⟩ := hcut
          have kc := kr.then_ hb
          have d0 := (hb.cell (p := ⟨g, o + k * 4, none⟩) hgr).trans c0
          have d1 := (hb.cell (p := ⟨g, o + k * 4 + 1, none⟩) hgr).trans c1
          have d2 := (hb.cell (p := ⟨g, o + k * 4 + 2, none⟩) hgr).trans c2
          have d3 := (hb.cell (p := ⟨g, o + k * 4 + 3, none⟩) hgr).trans c3
          have hgc : g < wc.heap.size := Nat.lt_of_lt_of_le hgr hb.size
          have cr : ∀ {W : World}, KSt w W → Calls Tryd.prog 22 #[.int .i64 n, .agg #[.int .i64 kk, .int .u64 m, .string s]] W fun e w' => e = .returned (.tuple #[.agg #[.int .i64 x, .int .u64 y, .string z], .int .i64 E]) ∧ Below W.heap.size W w' := fun q => by
            have := rapply_any q n ⟨kk, m, s⟩ HC.out.1 HC.out.2.1
            unfold CappAt at this
            rw [HC.out.2.2] at this
            exact this
          obtain ⟨wv, rfl⟩ : ∃ wv : World, wv = wc := ⟨_, rfl⟩
          clear c0 c1 c2 c3 hb kr hgr hg5
          go_upto_region 8 with fail
          go_cut [7, 8] (fun s7 s8 wx => ∃ g7 : Nat, s7 = .pointer (some ⟨g7, 0, none⟩) ∧ s8 = .int .i64 E ∧ Below wv.heap.size wv wx ∧ VBlk wx g7 ⟨x, y, z⟩)
          case first =>
            go_region_with (first
              | (go_at_call 22; refine (cr (by first | exact kc.k | exact kc.drew.k | exact (kc.new _).k | exact (kc.drew.new _).k)).mono ?_; rintro e w5 ⟨rfl, b5⟩; first
                  | (have bw : Below wv.heap.size wv w5 := (Below.refl _ wv).drew.trans (below_of_alloc (w := wv.drew) _ b5); have hz : VBlk w5 wv.heap.size v0 := (b5.block wv.heap.size (show wv.heap.size < (wv.alloc (.cells (vaC v0) 24)).heap.size by simp)).trans (VBlk.new wv v0); have z0 : w5.cell? ⟨wv.heap.size, 0, none⟩ = some (.int .i64 0) := hz.cells.1; have z1 : w5.cell? ⟨wv.heap.size, 1, none⟩ = some (.int .u64 0) := hz.cells.2.1; have z2 : w5.cell? ⟨wv.heap.size, 2, none⟩ = some (.string ⟨#[]⟩) := hz.cells.2.2; have z3 := hz.frozen)
                  | (have bw : Below wv.heap.size wv w5 := (Below.refl _ wv).drew.trans (b5.mono (Nat.le_refl _)))))
            all_goals (go_wp2_with fail; go_meet; first
              | exact ⟨wv.heap.size, rfl, rfl, bw.trans ((Turned.setCells (vaC ⟨x, y, z⟩).toList 0 w5 (Turned.refl wv.heap.size w5)).below (Nat.le_refl _)), hz.set ⟨x, y, z⟩⟩
              | exact ⟨w5.heap.size, rfl, rfl, Below.new' bw _, VBlk.new w5 ⟨x, y, z⟩⟩)
          case rest =>
            obtain ⟨g7, rfl, rfl, hb2, hv7⟩ := hcut
            have k8 := kc.then_ hb2
            obtain ⟨q0, q1, q2⟩ := (hv5.below hb2).cells
            obtain ⟨r0, r1, r2⟩ := hv7.cells
            dsimp only at q0 q1 q2 r0 r1 r2
            clear d0 d1 d2 d3 cr kc hb2 hv5 hv7 hgc
            go_wp2_with fail
            go_roundw
            case rel => exact ⟨k + 1, by simp, by go_num, by omega, k8⟩
            case measure => simp [intOf]; omega
      · have hltz : ¬ (k : Int) < (l.length : Int) := by omega
        go_wp2_with fail
        go_ret
        exact ⟨rfl, kr.below⟩
end Go.Proofs.YtijgcfnjbfaelaaDoor
