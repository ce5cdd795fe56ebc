/- The walk of the reference: a node made. -/
import Derived.Test.YtbngelinfpaefaaGreatDoorParRx
import Derived.Test.YtbngelinfpaefaaGreatDoorParGb
import Derived.Deep.RegionLaw
import Derived.Deep.RegionHeld3
namespace Go.Proofs.YtbngelinfpaefaaGreatDoor
open Go.RowKit
open Go.Lib (byteCells)

theorem fold_le (l : List Nat) : ∀ d, d ≤ 100 → (∀ x ∈ l, x ≤ 100) → l.foldl max d ≤ 100 := by
  induction l with
  | nil => exact fun d h _ => h
  | cons a r ih => exact fun d h hl => ih (max d a) (by have := hl a (.head _); omega) fun x hx => hl x (.tail _ hx)

set_option maxRecDepth 100000 in
set_option maxHeartbeats 4000000 in
theorem remit_any {w : World} {g B : Nat} {A : Option Addr} {c : Nat} {T : List Tk} {p : PS} {gn gd : Nat} (h : PSe w g B A c T p gn gd) (x : Nd) (k : Nat) (hk : p.flt = 0 → k ≤ p.dps.length) (hn : p.nds.length ≤ 2000000) (hd : p.dps.length ≤ 2000000) :
    Calls Tryz.prog 91 #[.pointer (some ⟨g, 0, none⟩), .agg #[.int .i64 (x.op : Nat), .int .i64 (x.n : Nat), .int .u64 (x.num : Nat), .string (str x.t), .int .i64 (x.a : Nat)], .int .i64 (k : Nat)] w fun r w' => r = .returned (.tuple #[]) ∧ ∃ gn' gd', PSe w' g B A c T (p.emit x k) gn' gd' ∧ Xr g gn gd gn' gd' w w' := by
  have hPS := h
  have hrow := h.rows
  obtain ⟨⟨cn, cd, hP, hN, hD⟩, hne, hT, hgB, hBw, h100⟩ := h
  have hPa := hP.new (.cells #[.int .i64 (x.op : Nat), .int .i64 (x.n : Nat), .int .u64 (x.num : Nat), .string (str x.t), .int .i64 (x.a : Nat)] 53)
  have hNa := hN.new (.cells #[.int .i64 (x.op : Nat), .int .i64 (x.n : Nat), .int .u64 (x.num : Nat), .string (str x.t), .int .i64 (x.a : Nat)] 53)
  have hDa := hD.new (.cells #[.int .i64 (x.op : Nat), .int .i64 (x.n : Nat), .int .u64 (x.num : Nat), .string (str x.t), .int .i64 (x.a : Nat)] 53)
  have hba : Below w.heap.size w (w.alloc (.cells #[.int .i64 (x.op : Nat), .int .i64 (x.n : Nat), .int .u64 (x.num : Nat), .string (str x.t), .int .i64 (x.a : Nat)] 53)) := (Below.refl _ w).alloc (Nat.le_refl _) _
  have hX : NBlk (w.alloc (.cells #[.int .i64 (x.op : Nat), .int .i64 (x.n : Nat), .int .u64 (x.num : Nat), .string (str x.t), .int .i64 (x.a : Nat)] 53)) w.heap.size x := NBlk.new w x
  have hTa := hT.grown (w' := w.alloc (.cells #[.int .i64 (x.op : Nat), .int .i64 (x.n : Nat), .int .u64 (x.num : Nat), .string (str x.t), .int .i64 (x.a : Nat)] 53)) hP.len (.of hba)
  by_cases q0 : p.flt = 0
  · have z0 : ((p.flt : Int) != 0) = false := by simp [q0]
    have hk2 := hk q0
    obtain ⟨fr, hfr⟩ : ∃ fr, p.dps.length - k = fr := ⟨_, rfl⟩
    obtain ⟨M, hM⟩ : ∃ M, (p.dps.drop fr).foldl max 0 = M := ⟨_, rfl⟩
    have hM100 : M ≤ 100 := by rw [← hM]; exact fold_le _ 0 (by omega) fun y hy => h100 y (List.mem_of_mem_drop hy)
    have he : p.emit x k = if 100 < M + 1 then p.fail x.a 91 else { p with dps := p.dps.take fr ++ [M + 1], nds := p.nds ++ [x] } := by
      unfold PS.emit
      rw [if_neg (by omega), hfr, hM]
    obtain ⟨E, hE⟩ : ∃ E, p.emit x k = E := ⟨_, rfl⟩
    rw [hE] at he ⊢
    have HE := Lib.hid he
    have hfz : (p.dps.length : Int) - (k : Int) = (fr : Int) := by omega
    have hfl : fr ≤ p.dps.length := by omega
    have HM := Lib.hid hM
    have HPa := Lib.hid hPa
    have HNa := Lib.hid hNa
    have HDa := Lib.hid hDa
    have HTa := Lib.hid hTa
    have HX := Lib.hid hX
    obtain ⟨_, _, _, c3, c4, c5, _⟩ := hPa.cells
    have hsz : (w.alloc (.cells #[.int .i64 (x.op : Nat), .int .i64 (x.n : Nat), .int .u64 (x.num : Nat), .string (str x.t), .int .i64 (x.a : Nat)] 53)).heap.size = w.heap.size + 1 := by simp
    have hPl := hP.len
    clear hP hN hD hT hPa hNa hDa hTa hX hk hM he q0 hE hPS
    go_enter Tryz.func91, Tryz.ntmps91
    go_wp2
    generalize w.alloc (.cells #[.int .i64 (x.op : Nat), .int .i64 (x.n : Nat), .int .u64 (x.num : Nat), .string (str x.t), .int .i64 (x.a : Nat)] 53) = W1 at *
    go_loopw [6, 8] (fun u v wr => ∃ (d i : Nat), u = .int .i64 d ∧ v = .int .i64 i ∧ fr ≤ i ∧ i ≤ p.dps.length ∧ d ≤ 100 ∧ Hid ((p.dps.drop i).foldl max d = M) ∧ W1 = wr) (fun _ v _ => p.dps.length - (intOf v).toNat)
    case atStart => exact ⟨0, fr, rfl, rfl, Nat.le_refl _, hfl, by omega, HM, rfl⟩
    case round =>
      obtain ⟨d, i, rfl, rfl, hfi, hil, hd100, HI, rfl⟩ := hrel
      by_cases hlt : i < p.dps.length
      · have hltz : (i : Int) < (p.dps.length : Int) := by omega
        have hi0 : (0 : Int) ≤ (i : Int) := by omega
        have hc := HDa.out.at_ hlt
        have hdr : p.dps.drop i = p.dps[i] :: p.dps.drop (i + 1) := List.drop_eq_getElem_cons hlt
        have hI := HI.out
        have hb := h100 p.dps[i] (List.getElem_mem _)
        rw [hdr, List.foldl_cons] at hI
        obtain ⟨y, hy⟩ : ∃ y, p.dps[i] = y := ⟨_, rfl⟩
        rw [hy] at hc hI hb
        by_cases hgt : d < y
        · have hz : (d : Int) < (y : Int) := by omega
          have HI2 : Hid ((p.dps.drop (i + 1)).foldl max y = M) := by unfold Hid; rw [← hI, Nat.max_eq_right (by omega)]
          clear hI hdr hy
          go_wp2
          go_roundw
          case rel => exact ⟨y, i + 1, rfl, by go_num, by omega, by omega, hb, HI2, trivial⟩
          case measure => simp [intOf]; omega
        · have hz : ¬ (d : Int) < (y : Int) := by omega
          have HI2 : Hid ((p.dps.drop (i + 1)).foldl max d = M) := by unfold Hid; rw [← hI, Nat.max_eq_left (by omega)]
          clear hI hdr hy
          go_wp2
          go_roundw
          case rel => exact ⟨d, i + 1, rfl, by go_num, by omega, by omega, hd100, HI2, trivial⟩
          case measure => simp [intOf]; omega
      · obtain rfl : i = p.dps.length := by omega
        have hltz : ¬ (p.dps.length : Int) < (p.dps.length : Int) := by omega
        have hdM : d = M := by have := HI.out; rw [List.drop_length] at this; exact this
        subst hdM
        by_cases hbig : 100 < d + 1
        · have hz : (100 : Int) < (d : Int) + 1 := by omega
          have HE2 : Hid (E = p.fail x.a 91) := by unfold Hid; rw [HE.out, if_pos hbig]
          have CF := rfail_any HPa.out x.a 91
          obtain ⟨n0, n1, n2, n3, n4⟩ := HX.out.cells
          go_wp2_with (go_at_call 51; refine CF.mono ?_; rintro e w2 ⟨rfl, hP2, hG2⟩; have HP2 := Lib.hid hP2; have HG2 := Lib.hid hG2; clear hP2 hG2)
          refine bodyPost_ret (results_none rfl _ _ _) rfl ?_
          have h1 : PSe W1 g B A c T p gn gd := ⟨⟨cn, cd, HPa.out, HNa.out, HDa.out⟩, hne, HTa.out, hgB, by omega, h100⟩
          obtain ⟨s1, s2⟩ := h1.turn (q := p.fail x.a 91) HNa.out HDa.out (fail_same p _ _).2.1 (fail_same p _ _).1 (in_fail HTa.out.inn _ _) HP2.out HG2.out
          rw [HE2.out]
          exact ⟨rfl, gn, gd, s1, (Xr.of hba).trans s2⟩
        · have hz : ¬ (100 : Int) < (d : Int) + 1 := by omega
          have HE2 : Hid (E = { p with dps := p.dps.take fr ++ [d + 1], nds := p.nds ++ [x] }) := by unfold Hid; rw [HE.out, if_neg hbig]
          have hB1 : B ≤ W1.heap.size := by omega
          have hlen : (p.dps.take fr).length = fr := by rw [List.length_take]; omega
          have hcap := HDa.out.cap
          have hcn := HNa.out.cap
          have kd : gd ≠ g := by omega
          have kn : gn ≠ g := by omega
          obtain ⟨r1, hr1⟩ : ∃ r1, r1 = p.dps.take fr ++ [d + 1] := ⟨_, rfl⟩
          obtain ⟨g1, c1, w4, ha, hD4, hat, hg4⟩ := run_app_int (HDa.out.cut fr hfl) (d + 1) r1 hr1 (by rw [hr1, List.length_append, hlen]; show fr + 1 ≤ _; omega) hB1
          rw [hlen] at ha hat hg4
          change W1.grownBy w4 (some gd) at hg4
          have hat' : gd = g1 ∨ W1.heap.size ≤ g1 := hat.imp (fun e => Option.some.inj e) id
          have HA1 : Hid ((Builtin.append_ #[61, 61] 61 #[.slice (some ⟨gd, 0, none⟩) fr cd, .slice (some ⟨W1.heap.size, 0, none⟩) 1 1]).run Tryz.prog (W1.alloc (.cells #[.int .i64 ((d : Int) + 1)] 3)) = .ok (.slice (some ⟨g1, 0, none⟩) r1.length c1) w4) := ha
          have hP4 := HPa.out.keep (hg4.block g (by omega) (fun e => kd (Option.some.inj e).symm))
          have f45 := hP4.frozen 5
          obtain ⟨_, _, _, _, _, c45, _⟩ := hP4.cells
          obtain ⟨W5, hW5⟩ : ∃ W5, w4.setCell ⟨g, 5, none⟩ (.slice (some ⟨g1, 0, none⟩) r1.length c1) = W5 := ⟨_, rfl⟩
          have hP5 := hP4.setD (.slice (some ⟨g1, 0, none⟩) r1.length c1)
          rw [hW5] at hP5
          have o5 : ∀ j, j ≠ g → W5.heap[j]? = w4.heap[j]? := fun j hj => by rw [← hW5]; exact Below.heap_setCell w4 ⟨g, 5, none⟩ _ j hj
          have hg1 : g1 ≠ g := by omega
          have hD5 : OwnD W5 B (some ⟨g1, 0, none⟩) c1 r1 := own_keep hD4 (o5 g1 hg1)
          have hN5 : OwnN W5 B (some ⟨gn, 0, none⟩) cn p.nds := own_keep HNa.out ((o5 gn kn).trans (hg4.block gn (by omega) (fun e => hne (Option.some.inj e))))
          have hX5 := HX.out.keep ((o5 w.heap.size (by omega)).trans (hg4.block w.heap.size (by omega) (fun e => by have := Option.some.inj e; have := hrow.2.2; omega)))
          have hx5 : Xr g gn gd gn g1 W1 W5 := ⟨by rw [← hW5]; exact hg4.os, by rw [← hW5]; exact hg4.tape, by rw [← hW5]; exact hg4.output, by rw [← hW5]; simpa using hg4.size, fun k hk h1 _ h3 => (o5 k h1).trans (hg4.block k hk fun e => h3 (Option.some.inj e)), .inl rfl, hat'.imp Eq.symm id⟩
          have hB5 : B ≤ W5.heap.size := Nat.le_trans hB1 hx5.size
          have hTR5 : TRow W5 g A T := HTa.out.row.below ⟨hx5.os, hx5.tape, hx5.output, hx5.size, fun k hk => hx5.block k (by omega) (by omega) (by omega) (by omega)⟩
          have hn1 : gn ≠ g1 := by omega
          obtain ⟨_, _, _, _, c54, _, _⟩ := hP5.cells
          obtain ⟨n0, n1, n2, n3, n4⟩ := hX5.cells
          have c54d : W5.drew.cell? ⟨g, 4, none⟩ = some (.slice (some ⟨gn, 0, none⟩) p.nds.length cn) := c54
          have n0d : W5.drew.cell? ⟨w.heap.size, 0, none⟩ = some (.int .i64 (x.op : Nat)) := n0
          have n1d : W5.drew.cell? ⟨w.heap.size, 1, none⟩ = some (.int .i64 (x.n : Nat)) := n1
          have n2d : W5.drew.cell? ⟨w.heap.size, 2, none⟩ = some (.int .u64 (x.num : Nat)) := n2
          have n3d : W5.drew.cell? ⟨w.heap.size, 3, none⟩ = some (.string (str x.t)) := n3
          have n4d : W5.drew.cell? ⟨w.heap.size, 4, none⟩ = some (.int .i64 (x.a : Nat)) := n4
          -- the node
          obtain ⟨r2, hr2⟩ : ∃ r2, r2 = p.nds ++ [x] := ⟨_, rfl⟩
          have hN5d : OwnN W5.drew B (some ⟨gn, 0, none⟩) cn p.nds := hN5
          obtain ⟨g2, c2, w6, hb, hN6, hat6, hg6⟩ := run_app_nd2 hN5d x r2 hr2 (by rw [hr2, List.length_append]; show p.nds.length + 1 ≤ _; omega) hB5
          change W5.drew.grownBy w6 (some gn) at hg6
          have hat6' : gn = g2 ∨ W5.heap.size ≤ g2 := hat6.imp (fun e => Option.some.inj e) id
          have hsz5 := hx5.size
          have hs6 : W5.heap.size ≤ w6.heap.size := hg6.size
          have hD5c := hD5.cap
          rw [World.alloc_drew] at hb
          have HB : Hid ((Builtin.append_ #[32, 32] 32 #[.slice (some ⟨gn, 0, none⟩) p.nds.length cn, .slice (some ⟨W5.heap.size, 0, none⟩) 1 1]).run Tryz.prog (W5.alloc (.cells #[.int .i64 (x.op : Nat), .int .i64 (x.n : Nat), .int .u64 (x.num : Nat), .string (str x.t), .int .i64 (x.a : Nat)] 53)).drew = .ok (.slice (some ⟨g2, 0, none⟩) r2.length c2) w6) := hb
          have hP6 := hP5.keep (w' := w6) (hg6.block g (by show g < W5.heap.size; omega) (fun e => kn (Option.some.inj e).symm))
          have f64 := hP6.frozen 4
          obtain ⟨_, _, _, _, c64, _, _⟩ := hP6.cells
          have hD6 : OwnD w6 B (some ⟨g1, 0, none⟩) c1 r1 := own_keep hD5 (hg6.block g1 (by show g1 < W5.heap.size; omega) (fun e => hn1 (Option.some.inj e).symm))
          have hg2 : g2 ≠ g := by omega
          have o7 : ∀ j, j ≠ g → (w6.setCell ⟨g, 4, none⟩ (.slice (some ⟨g2, 0, none⟩) r2.length c2)).heap[j]? = w6.heap[j]? := fun j hj => Below.heap_setCell w6 ⟨g, 4, none⟩ _ j hj
          have hx7 : Xr g gn g1 g2 g1 W5 (w6.setCell ⟨g, 4, none⟩ (.slice (some ⟨g2, 0, none⟩) r2.length c2)) := ⟨hg6.os, hg6.tape, hg6.output, by simpa using hs6, fun k hk h1 h2 _ => (o7 k h1).trans (hg6.block k hk fun e => h2 (Option.some.inj e)), hat6'.imp Eq.symm id, .inl rfl⟩
          have hTR7 : TRow (w6.setCell ⟨g, 4, none⟩ (.slice (some ⟨g2, 0, none⟩) r2.length c2)) g A T := hTR5.below ⟨hx7.os, hx7.tape, hx7.output, hx7.size, fun k hk => hx7.block k (by omega) (by omega) (by omega) (by omega)⟩
          have END : Hid (PSe (w6.setCell ⟨g, 4, none⟩ (.slice (some ⟨g2, 0, none⟩) r2.length c2)) g B A c T E g2 g1 ∧ Xr g gn gd g2 g1 w (w6.setCell ⟨g, 4, none⟩ (.slice (some ⟨g2, 0, none⟩) r2.length c2))) := by
            rw [HE2.out]
            refine ⟨⟨⟨c2, c1, ?_, ?_, ?_⟩, by omega, ⟨hTR7, HTa.out.ends, HTa.out.inn, HTa.out.few⟩, hgB, Nat.le_trans hB5 hx7.size, ?_⟩, ((Xr.of hba).trans hx5).trans hx7⟩
            · have := (hP6.setN (.slice (some ⟨g2, 0, none⟩) r2.length c2)).lists r2 r1
              rw [← hr1, ← hr2]
              exact this
            · rw [← hr2]
              exact own_keep hN6 (o7 g2 hg2)
            · rw [← hr1]
              exact own_keep hD6 (o7 g1 hg1)
            · intro y hy
              rcases List.mem_append.1 hy with z | z
              · exact h100 y (List.mem_of_mem_take z)
              · have := List.mem_singleton.1 z
                omega
          have hfc : (fr : Int) ≤ (cd : Int) := by omega
          have hf0 : (0 : Int) ≤ (fr : Int) := by omega
          have HP5a := Lib.hid (hP5.new (.cells #[.int .i64 (x.op : Nat), .int .i64 (x.n : Nat), .int .u64 (x.num : Nat), .string (str x.t), .int .i64 (x.a : Nat)] 53))
          have K5 := Lib.hid (And.intro c54 (And.intro c54d (And.intro n0 (And.intro n1 (And.intro n2 (And.intro n3 (And.intro n4 (And.intro n0d (And.intro n1d (And.intro n2d (And.intro n3d n4d)))))))))))
          have K6 := Lib.hid (And.intro f64 c64)
          have HC := Lib.hid (And.intro hcap (And.intro hcn (And.intro hrow hat')))
          clear hsz c54 c54d n0 n1 n2 n3 n4 n0d n1d n2d n3d n4d f64 c64 hcap hcn hrow hat' hsz5 hs6 hB5
          clear hP4 hP5 hD5 hN5 hX5 hx5 hTR5 ha hat hg4 hD4 o5 HM HI hN5d hb hN6 hat6 hg6 hat6' hP6 hD6 o7 hx7 hTR7 hD5c hr1 hr2
          go_wp2_with (at_builtin; refine wpList_append_run rfl (.tmp 60) (.tmp 63) _ rfl rfl rfl HA1.out ?_)
          obtain ⟨c54, c54d, n0, n1, n2, n3, n4, n0d, n1d, n2d, n3d, n4d⟩ := K5.out
          obtain ⟨f64, c64⟩ := K6.out
          obtain ⟨_, _, _, _, c54a, _, _⟩ := HP5a.out.cells
          have c54b : (W5.alloc (.cells #[.int .i64 (x.op : Nat), .int .i64 (x.n : Nat), .int .u64 (x.num : Nat), .string (str x.t), .int .i64 (x.a : Nat)] 53)).drew.cell? ⟨g, 4, none⟩ = some (.slice (some ⟨gn, 0, none⟩) p.nds.length cn) := c54a
          go_region_law (first
            | (refine step_append_run rfl (.tmp 71) (.tmp 73) _ rfl rfl rfl HB.out ?_))
          all_goals
            go_wp2
            go_end0
            exact ⟨rfl, g2, g1, END.out⟩
  · have z0 : ((p.flt : Int) != 0) = true := by simp; omega
    obtain ⟨_, _, _, c3, _, _, _⟩ := hPa.cells
    have END : Hid (PSe (w.alloc (.cells #[.int .i64 (x.op : Nat), .int .i64 (x.n : Nat), .int .u64 (x.num : Nat), .string (str x.t), .int .i64 (x.a : Nat)] 53)) g B A c T (p.emit x k) gn gd ∧ Xr g gn gd gn gd w (w.alloc (.cells #[.int .i64 (x.op : Nat), .int .i64 (x.n : Nat), .int .u64 (x.num : Nat), .string (str x.t), .int .i64 (x.a : Nat)] 53))) := by
      rw [emit_stuck q0]
      exact ⟨hPS.below hba, Xr.of hba⟩
    clear hP hN hD hT hPa hNa hDa hTa hX hk q0 hPS
    go_enter Tryz.func91, Tryz.ntmps91
    go_wp2
    refine bodyPost_ret (results_none rfl _ _ _) rfl ?_
    exact ⟨rfl, gn, gd, END.out⟩
end Go.Proofs.YtbngelinfpaefaaGreatDoor
