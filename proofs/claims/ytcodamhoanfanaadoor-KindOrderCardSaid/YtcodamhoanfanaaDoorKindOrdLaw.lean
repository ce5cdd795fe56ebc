/- The walk of KindOrder. -/
import Derived.Test.YtcodamhoanfanaaDoorKindNumLaw
namespace Go.Proofs.YtcodamhoanfanaaDoor
open Go.RowKit

/-- what is known of the three answers -/
structure Three (a b c : Val) (O R T : Int) : Prop where
  low : ¬ O < -1
  high : ¬ 1 < O
  go1 : O ≤ 0 → R ≤ 0 → ¬ 0 < T
  go2 : O < 0 → R ≤ 0 → ¬ 0 ≤ T
  go3 : O ≤ 0 → R < 0 → ¬ 0 ≤ T
  far : ¬ b.k ≤ a.k → O = -1
  same : O = 0 ↔ (a.k = b.k ∧ a.n = b.n ∧ a.s.toList = b.s.toList)
theorem three (a b c : Val) (ha : Fits a) (hb : Fits b) : Three a b c (ordV a b) (ordV b c) (ordV a c) := by
  have h1 := ord_range a b
  obtain ⟨t1, t2, t3⟩ := ord_trans a b c
  refine ⟨by omega, by omega, fun x y => by have := t1 x y; omega, fun x y => by have := t2 x y; omega, fun x y => by have := t3 x y; omega, fun h => ?_, ?_⟩
  · rcases ord_three a b with ⟨q, _⟩ | ⟨_, q, _⟩ | ⟨_, q | ⟨q, _⟩⟩ <;> omega
  · rw [ord_zero ha hb]
    constructor
    · rintro ⟨x, y, z⟩
      exact ⟨x, y, by rw [z]⟩
    · rintro ⟨x, y, z⟩
      refine ⟨x, y, ?_⟩
      rw [Lib.toList_data, Lib.toList_data] at z
      exact ByteArray.ext (Array.toList_inj.1 z)

/-- the world with the three values boxed -/
def W3 (w : World) (a b c : Val) : World :=
  ((w.alloc (.cells #[.int .i64 a.k, .int .u64 a.n, .string a.s] 30)).alloc (.cells #[.int .i64 b.k, .int .u64 b.n, .string b.s] 30)).alloc (.cells #[.int .i64 c.k, .int .u64 c.n, .string c.s] 30)
/-- the nine cells of the three boxed values -/
structure Nine (w w' : World) (a b c : Val) : Prop where
  a0 : w'.cell? ⟨w.heap.size, 0, none⟩ = some (.int .i64 a.k)
  a1 : w'.cell? ⟨w.heap.size, 1, none⟩ = some (.int .u64 a.n)
  a2 : w'.cell? ⟨w.heap.size, 2, none⟩ = some (.string a.s)
  b0 : w'.cell? ⟨w.heap.size + 1, 0, none⟩ = some (.int .i64 b.k)
  b1 : w'.cell? ⟨w.heap.size + 1, 1, none⟩ = some (.int .u64 b.n)
  b2 : w'.cell? ⟨w.heap.size + 1, 2, none⟩ = some (.string b.s)
  c0 : w'.cell? ⟨w.heap.size + 2, 0, none⟩ = some (.int .i64 c.k)
  c1 : w'.cell? ⟨w.heap.size + 2, 1, none⟩ = some (.int .u64 c.n)
  c2 : w'.cell? ⟨w.heap.size + 2, 2, none⟩ = some (.string c.s)
theorem row_old {W : World} {b : Nat} {o' : Obj} (o : Obj) (h : W.heap[b]? = some o') : (W.alloc o).heap[b]? = some o' := by
  have hlt : b < W.heap.size := (Array.getElem?_eq_some_iff.1 h).1
  show (W.heap.push o)[b]? = some o'
  rw [Array.getElem?_push, if_neg (by omega), h]
theorem nine {w w' : World} {a b c : Val} (hb : Below (W3 w a b c).heap.size (W3 w a b c) w') : Nine w w' a b c := by
  have r0 : (W3 w a b c).heap[w.heap.size]? = some (.cells #[.int .i64 a.k, .int .u64 a.n, .string a.s] 30 (0, 0)) := row_old _ (row_old _ (heap_alloc_new _ _))
  have r1 : (W3 w a b c).heap[w.heap.size + 1]? = some (.cells #[.int .i64 b.k, .int .u64 b.n, .string b.s] 30 (0, 0)) := by
    refine row_old _ ?_
    have := heap_alloc_new (w.alloc (.cells #[.int .i64 a.k, .int .u64 a.n, .string a.s] 30)) (.cells #[.int .i64 b.k, .int .u64 b.n, .string b.s] 30)
    rwa [World.size_alloc] at this
  have r2 : (W3 w a b c).heap[w.heap.size + 2]? = some (.cells #[.int .i64 c.k, .int .u64 c.n, .string c.s] 30 (0, 0)) := by
    have := heap_alloc_new ((w.alloc (.cells #[.int .i64 a.k, .int .u64 a.n, .string a.s] 30)).alloc (.cells #[.int .i64 b.k, .int .u64 b.n, .string b.s] 30)) (.cells #[.int .i64 c.k, .int .u64 c.n, .string c.s] 30)
    rwa [World.size_alloc, World.size_alloc] at this
  exact ⟨row_cells hb r0 0 _ rfl, row_cells hb r0 1 _ rfl, row_cells hb r0 2 _ rfl, row_cells hb r1 0 _ rfl, row_cells hb r1 1 _ rfl, row_cells hb r1 2 _ rfl, row_cells hb r2 0 _ rfl, row_cells hb r2 1 _ rfl, row_cells hb r2 2 _ rfl⟩

set_option maxRecDepth 100000 in
set_option maxHeartbeats 4000000 in
theorem ordlaw_any {w : World} (h : KAll w w) (a b c : Val) (ha : Fits a) (hb : Fits b) (hc : Fits c) :
    Calls Tryd.prog 7 #[vv a, vv b, vv c] w (Yes w) := by
  have f := three a b c ha hb
  have c1 := fun {w0 w1 : World} (g : KAll w0 w1) => g.ofK (fun k => order_any k a b ha hb)
  have c2 := fun {w0 w1 : World} (g : KAll w0 w1) => g.ofK (fun k => order_any k b c hb hc)
  have c3 := fun {w0 w1 : World} (g : KAll w0 w1) => g.ofK (fun k => order_any k a c ha hc)
  have c4 := fun {w0 w1 : World} (g : KAll w0 w1) => g.ofK (fun k => order_any k b a hb ha)
  have hneg := ord_neg a b
  obtain ⟨O, hO⟩ : ∃ O, ordV a b = O := ⟨_, rfl⟩
  obtain ⟨R, hR⟩ : ∃ R, ordV b c = R := ⟨_, rfl⟩
  obtain ⟨T, hT⟩ : ∃ T, ordV a c = T := ⟨_, rfl⟩
  simp only [hneg, hO] at c4
  simp only [hO] at c1
  simp only [hR] at c2
  simp only [hT] at c3
  rw [hO, hR, hT] at f
  have hw0 : Below w.heap.size w (W3 w a b c) := (((Below.refl _ _).alloc (Nat.le_refl _) _).alloc (by simp) _).alloc (by simp; omega) _
  have hk3 : KAll w (W3 w a b c) := h.then_ hw0
  have k3 := hk3.self
  have h9 := fun {w' : World} (g : KAll (W3 w a b c) w') => nine g.below
  have HW0 := Lib.hid hw0
  have F := Lib.hid f
  clear hneg hO hR hT f ha hb hc h hk3 hw0
  obtain ⟨ka, na, sa⟩ := a
  obtain ⟨kb, nb, sb⟩ := b
  obtain ⟨kc, nc, sc⟩ := c
  unfold vv at c1 c2 c3 c4 ⊢

  have FS := F.out.same
  have hO3 : O = -1 ∨ O = 0 ∨ O = 1 := by have := F.out.low; have := F.out.high; omega
  try dsimp only at FS
  have hk9 : ∀ {w' : World}, KAll (W3 w ⟨ka, na, sa⟩ ⟨kb, nb, sb⟩ ⟨kc, nc, sc⟩) w' → w'.cell? ⟨w.heap.size, 0, none⟩ = some (.int .i64 ka) ∧ w'.cell? ⟨w.heap.size, 1, none⟩ = some (.int .u64 na) ∧ w'.cell? ⟨w.heap.size, 2, none⟩ = some (.string sa) ∧
      w'.cell? ⟨w.heap.size + 1, 0, none⟩ = some (.int .i64 kb) ∧ w'.cell? ⟨w.heap.size + 1, 1, none⟩ = some (.int .u64 nb) ∧ w'.cell? ⟨w.heap.size + 1, 2, none⟩ = some (.string sb) ∧
      w'.cell? ⟨w.heap.size + 2, 0, none⟩ = some (.int .i64 kc) ∧ w'.cell? ⟨w.heap.size + 2, 1, none⟩ = some (.int .u64 nc) ∧ w'.cell? ⟨w.heap.size + 2, 2, none⟩ = some (.string sc) := fun g => ⟨(h9 g).a0, (h9 g).a1, (h9 g).a2, (h9 g).b0, (h9 g).b1, (h9 g).b2, (h9 g).c0, (h9 g).c1, (h9 g).c2⟩
  clear h9
  unfold W3 at hk9 k3 HW0
  try dsimp only at hk9 k3 HW0
  rcases hO3 with rfl | rfl | rfl
  · have hne : ¬ (ka = kb ∧ na = nb ∧ sa.toList = sb.toList) := fun g => absurd (FS.2 g) (by decide)
    have HNE := Lib.hid hne
    clear FS hne
    go_enter Tryd.func7, Tryd.ntmps7
    go_wp2_with (first
      | (go_at_call 9; refine (awake_any k3).mono ?_; rintro e w' ⟨rfl, hst⟩; obtain ⟨p0, p1, p2, p3, p4, p5, p6, p7, p8⟩ := hk9 hst)
      | (go_at_call 16; with_reducible refine (c1 (by assumption)).mono ?_; rintro e w' ⟨rfl, hst⟩; obtain ⟨p0, p1, p2, p3, p4, p5, p6, p7, p8⟩ := hk9 hst)
      | (go_at_call 16; with_reducible refine (c2 (by assumption)).mono ?_; rintro e w' ⟨rfl, hst⟩; obtain ⟨p0, p1, p2, p3, p4, p5, p6, p7, p8⟩ := hk9 hst)
      | (go_at_call 16; with_reducible refine (c3 (by assumption)).mono ?_; rintro e w' ⟨rfl, hst⟩; obtain ⟨p0, p1, p2, p3, p4, p5, p6, p7, p8⟩ := hk9 hst)
      | (go_at_call 16; with_reducible refine (c4 (by assumption)).mono ?_; rintro e w' ⟨rfl, hst⟩; obtain ⟨p0, p1, p2, p3, p4, p5, p6, p7, p8⟩ := hk9 hst))
    all_goals first
      | (go_ret; exact ⟨rfl, Below.both HW0.out (KAll.below (by assumption))⟩)
      | (go_ret; refine ⟨ret_bool ?_, Below.both HW0.out (KAll.below (by assumption))⟩; simp; done)
      | (exfalso; exact HNE.out ⟨by omega, by omega, by assumption⟩)
      | (exfalso; have q := F.out.go1 (by omega) (by omega); omega)
      | (exfalso; have q := F.out.go2 (by omega) (by omega); omega)
      | (exfalso; have q := F.out.go3 (by omega) (by omega); omega)
  · obtain ⟨rfl, rfl, hs⟩ := FS.1 rfl
    obtain rfl : sa = sb := by
      rw [Lib.toList_data, Lib.toList_data] at hs
      exact ByteArray.ext (Array.toList_inj.1 hs)
    clear hs FS
    go_enter Tryd.func7, Tryd.ntmps7
    go_wp2_with (first
      | (go_at_call 9; refine (awake_any k3).mono ?_; rintro e w' ⟨rfl, hst⟩; obtain ⟨p0, p1, p2, p3, p4, p5, p6, p7, p8⟩ := hk9 hst)
      | (go_at_call 16; with_reducible refine (c1 (by assumption)).mono ?_; rintro e w' ⟨rfl, hst⟩; obtain ⟨p0, p1, p2, p3, p4, p5, p6, p7, p8⟩ := hk9 hst)
      | (go_at_call 16; with_reducible refine (c2 (by assumption)).mono ?_; rintro e w' ⟨rfl, hst⟩; obtain ⟨p0, p1, p2, p3, p4, p5, p6, p7, p8⟩ := hk9 hst)
      | (go_at_call 16; with_reducible refine (c3 (by assumption)).mono ?_; rintro e w' ⟨rfl, hst⟩; obtain ⟨p0, p1, p2, p3, p4, p5, p6, p7, p8⟩ := hk9 hst)
      | (go_at_call 16; with_reducible refine (c4 (by assumption)).mono ?_; rintro e w' ⟨rfl, hst⟩; obtain ⟨p0, p1, p2, p3, p4, p5, p6, p7, p8⟩ := hk9 hst))
    all_goals first
      | (go_ret; exact ⟨rfl, Below.both HW0.out (KAll.below (by assumption))⟩)
      | (go_ret; refine ⟨ret_bool ?_, Below.both HW0.out (KAll.below (by assumption))⟩; simp; done)
      | (exfalso; have q := F.out.go1 (by omega) (by omega); omega)
      | (exfalso; have q := F.out.go2 (by omega) (by omega); omega)
      | (exfalso; have q := F.out.go3 (by omega) (by omega); omega)
  · have hne : ¬ (ka = kb ∧ na = nb ∧ sa.toList = sb.toList) := fun g => absurd (FS.2 g) (by decide)
    have HNE := Lib.hid hne
    have hfar : kb ≤ ka := by
      have := F.out.far
      dsimp only at this
      by_cases g : kb ≤ ka
      · exact g
      · exact absurd (this g) (by decide)
    clear FS hne
    go_enter Tryd.func7, Tryd.ntmps7
    go_wp2_with (first
      | (go_at_call 9; refine (awake_any k3).mono ?_; rintro e w' ⟨rfl, hst⟩; obtain ⟨p0, p1, p2, p3, p4, p5, p6, p7, p8⟩ := hk9 hst)
      | (go_at_call 16; with_reducible refine (c1 (by assumption)).mono ?_; rintro e w' ⟨rfl, hst⟩; obtain ⟨p0, p1, p2, p3, p4, p5, p6, p7, p8⟩ := hk9 hst)
      | (go_at_call 16; with_reducible refine (c2 (by assumption)).mono ?_; rintro e w' ⟨rfl, hst⟩; obtain ⟨p0, p1, p2, p3, p4, p5, p6, p7, p8⟩ := hk9 hst)
      | (go_at_call 16; with_reducible refine (c3 (by assumption)).mono ?_; rintro e w' ⟨rfl, hst⟩; obtain ⟨p0, p1, p2, p3, p4, p5, p6, p7, p8⟩ := hk9 hst)
      | (go_at_call 16; with_reducible refine (c4 (by assumption)).mono ?_; rintro e w' ⟨rfl, hst⟩; obtain ⟨p0, p1, p2, p3, p4, p5, p6, p7, p8⟩ := hk9 hst))
    all_goals first
      | (go_ret; exact ⟨rfl, Below.both HW0.out (KAll.below (by assumption))⟩)
      | (go_ret; refine ⟨ret_bool ?_, Below.both HW0.out (KAll.below (by assumption))⟩; simp; done)
      | (exfalso; exact HNE.out ⟨by omega, by omega, by assumption⟩)
end Go.Proofs.YtcodamhoanfanaaDoor
