/- The walk of the code: a subtree, by the function of its Op. -/
import Derived.Test.YtipcgmaobiobbaaGreatDoorPrSub
import Derived.BigQuiet
namespace Go.Proofs.YtipcgmaobiobbaaGreatDoor
open Go.RowKit

theorem Wr.fn {w : World} {g B : Nat} {t : List UInt8} {lg dp : Bool} (h : Wr w g B t lg dp) (o : Nat) : w.cell? ⟨g, 4 + o, none⟩ = (ndFns g ++ stFns g)[o]? := by
  obtain ⟨⟨p, A, c, l, h1, _⟩, _⟩ := h
  rw [h1.cb.at_ (4 + o)]
  show (p :: .slice A l.length c :: .bool dp :: .bool lg :: (ndFns g ++ stFns g)).toArray[4 + o]? = _
  rw [List.getElem?_toArray, show 4 + o = o + 1 + 1 + 1 + 1 by omega]
  simp only [List.getElem?_cons_succ]

set_option maxRecDepth 100000 in
set_option maxHeartbeats 8000000 in
theorem psubfn_any {w : World} {g B x f d : Nat} {A : Option Addr} {c : Nat} {N : List Rn} {F D : List Nat} {t S : List UInt8} {lg dp : Bool} {r : Nat} {y : Rn} (h : Wr w g B t lg dp) (hE : Ec w g B x f d A c N F D) (hy : N[r]? = some y)
    (o : Nat) (ho : y.op = (o : Nat)) (ho13 : o < 13) (fn : FuncId) (v : Value) (hfn : (ndFns g)[o]? = some (.func (.func fn) #[v] #[])) (hen : ∀ args w, (callFunc fn args).run Tryz.prog w = .ok (.enter fn args) w)
    (cd : ∀ W, Wr W g B t lg dp → Ec W g B x f d A c N F D → Calls Tryz.prog fn #[v, .agg #[.pointer (some ⟨x, 0, none⟩), .int .i64 (r : Nat)]] W (PutT g B t S lg dp W)) :
    Calls Tryz.prog 39 #[.pointer (some ⟨g, 0, none⟩), .agg #[.pointer (some ⟨x, 0, none⟩), .int .i64 (r : Nat)]] w (PutT g B t S lg dp w) := by
  have hB := h.Bw
  obtain ⟨w1, hw1⟩ : ∃ w1, w.alloc (.cells #[.pointer (some ⟨x, 0, none⟩), .int .i64 (r : Nat)] 97) = w1 := ⟨_, rfl⟩
  have b1 : Below w.heap.size w w1 := by rw [← hw1]; exact (Below.refl _ w).alloc (Nat.le_refl _) _
  have s1 : w1.heap.size = w.heap.size + 1 := by rw [← hw1]; simp
  have k1 : CB w1 w.heap.size 97 #[.pointer (some ⟨x, 0, none⟩), .int .i64 (r : Nat)] := by rw [← hw1]; exact CB.new w _ _
  have FX : Hid (∀ W, Below w1.heap.size w1 W → W.cell? ⟨w.heap.size, 0, none⟩ = some (.pointer (some ⟨x, 0, none⟩)) ∧ W.cell? ⟨w.heap.size, 1, none⟩ = some (.int .i64 (r : Nat)) ∧ W.cell? ⟨g, 4 + o, none⟩ = some (.func (.func fn) #[v] #[])) := fun W hW => by
    have kW := k1.below hW
    have hWr := (h.below b1).below hW
    refine ⟨kW.at_ 0, kW.at_ 1, ?_⟩
    rw [hWr.fn o, List.getElem?_append_left (by rw [show (ndFns g).length = 13 from rfl]; exact ho13)]
    exact hfn
  have CN : Hid (∀ W, Below w1.heap.size w1 W → Calls Tryz.prog 69 #[.agg #[.pointer (some ⟨x, 0, none⟩), .int .i64 (r : Nat)]] W fun e w' => e = .returned (.agg #[.int .i64 (o : Nat), .int .i64 y.n, .int .u64 (y.num : Nat), .string (str y.t), .int .i64 y.a]) ∧ Below W.heap.size W w') := fun W hW => by
    have hb := b1.trans (hW.mono (by omega))
    have := pnode_any (hE.xb.below hb) (hE.rn.below (hb.mono hB)) (Nat.le_trans hB hb.size) hy
    rw [ho] at this
    exact this
  have CD : Hid (∀ W, Below w1.heap.size w1 W → Calls Tryz.prog fn #[v, .agg #[.pointer (some ⟨x, 0, none⟩), .int .i64 (r : Nat)]] W fun e w' => e = .returned (.tuple #[]) ∧ (w'.cell? ⟨w.heap.size, 0, none⟩ = some (.pointer (some ⟨x, 0, none⟩)) ∧ w'.cell? ⟨w.heap.size, 1, none⟩ = some (.int .i64 (r : Nat)) ∧ w'.cell? ⟨g, 4 + o, none⟩ = some (.func (.func fn) #[v] #[])) ∧ Hid (Wr w' g B (t ++ S) (over t S.length lg) dp ∧ Pr g B w w')) := fun W hW => by
    have hb := b1.trans (hW.mono (by omega))
    have kW := k1.below hW
    have hWr := (h.below b1).below hW
    refine (cd W (h.below hb) (hE.pr (Pr.of hb hB))).mono ?_
    rintro e w' ⟨he, h1, h2⟩
    have k3 := kW.pr h2 (hWr.off kW (by decide)) (by decide)
    refine ⟨he, ⟨k3.at_ 0, k3.at_ 1, ?_⟩, h1, (Pr.of hb hB).trans h2⟩
    rw [h1.fn o, List.getElem?_append_left (by rw [show (ndFns g).length = 13 from rfl]; exact ho13)]
    exact hfn
  have hoz : (o : Int) < 13 := by omega
  have ho0 : (0 : Int) ≤ (o : Int) := by omega
  have ff : ∀ W, (Instr.field 64 (.agg #[.int .i64 (o : Nat), .int .i64 y.n, .int .u64 (y.num : Nat), .string (str y.t), .int .i64 y.a]) 0).run Tryz.prog W = .ok (.int .i64 (o : Nat)) W := fun _ => by kernel_rfl
  obtain ⟨c0, c1, c2⟩ := FX.out w1 (Below.refl _ _)
  have hB1 : Below w1.heap.size w1 w1.drew := Below.thenN (Below.refl _ _) 1
  unfold PutT WrAt
  clear h hE hy cd k1 ho hfn
  go_enter Tryz.func39, Tryz.ntmps39
  go_wp2
  go_region_held3 (fun W => W.cell? ⟨w.heap.size, 0, none⟩ = some (.pointer (some ⟨x, 0, none⟩)) ∧ W.cell? ⟨w.heap.size, 1, none⟩ = some (.int .i64 (r : Nat)) ∧ W.cell? ⟨g, 4 + o, none⟩ = some (.func (.func fn) #[v] #[])) (first | (with_reducible exact FX.out _ hB1) | (with_reducible exact FX.out _ hB2) | (with_reducible exact HS3) | (with_reducible assumption) | fail)
    (first
      | (go_at_call 69; (with_reducible refine (CN.out _ hB1).mono ?_); rintro e w2 ⟨rfl, hb2⟩; have hB2 : Below w1.heap.size w1 w2 := Below.both hB1 hb2)
      | (go_at_fn fn; (with_reducible refine (CD.out _ hB2).mono ?_); rintro e w3 ⟨rfl, HS3, H3⟩)
      | fail)
  all_goals
    go_wp2
    go_end0
    exact ⟨rfl, H3.out⟩

theorem kidTx_zero (P : List Pe) : kidTx P 0 = [] := by simp [kidTx]
theorem kidTx_one {P : List Pe} {k : Nat} (hk : k ≤ P.length) (h1 : k = 1) (b b' : List UInt8) : inter b (kidTx P k) = inter b' (kidTx P k) := by
  subst h1
  have hl : (kidTx P 1).length = 1 := by unfold kidTx; rw [List.length_map, List.length_reverse, List.length_take]; omega
  obtain ⟨z, hz⟩ := List.length_eq_one_iff.1 hl
  rw [hz, inter_one, inter_one]

theorem psub_all {g B x f d : Nat} {A : Option Addr} {c : Nat} {N : List Rn} {F D : List Nat} : ∀ r, SubC g B x f d A c N F D r := by
  intro r
  induction r using Nat.strongRecOn with
  | ind r IH =>
    intro w t lg dp e h hE he
    have hfi := he
    obtain ⟨Pq, hpile⟩ := he
    obtain ⟨P, y, k, hP, hy, ha, hk, hq⟩ := pile_succ hpile
    have hr : r < N.length := (List.getElem?_eq_some_iff.1 hy).1
    have hF := (hE.kn.at_ hr hfi).1
    injection hq with hq1 hq2
    have htx : e.tx = aheadL y ++ inter (betwL y) (kidTx P k) ++ behL y := by rw [hq1]; rfl
    have hF' : F[r]? = some (bottom r (P.take k)) := by rw [hF, hq1]; rfl
    rw [htx]
    have W := fun (a b z : List UInt8) (ha : a.length ≤ 100) (hb : b.length ≤ 100) (hz : z.length ≤ 100) (w : World) (h : Wr w g B t lg dp) (hE : Ec w g B x f d A c N F D) => pwrap_any IH h hE hP hk hF' hr a b z ha hb hz
    rcases arity_op ha with ⟨ho, hk0⟩ | ⟨ho, hk0⟩ | ⟨ho, hk0⟩ | ⟨ho, hk0⟩ | ⟨ho, hk0⟩ | ⟨ho, hk0⟩ | ⟨ho, hk0⟩ | ⟨ho, hk0⟩ | ⟨ho, hk0⟩ | ⟨ho, hk0⟩ | ⟨ho, hk0⟩ | ⟨ho, hk0⟩
    · have e1 : aheadL y ++ inter (betwL y) (kidTx P k) ++ behL y = Lib.decDigits y.num := by rw [hk0, kidTx_zero]; unfold aheadL behL; rw [if_pos ho, if_neg (by omega)]; simp [inter]
      rw [e1]
      exact psubfn_any h hE hy 1 ho (by decide) 43 (selfP g) rfl (enters_of Tryz.func43 (by kernel_rfl) rfl) fun W hW hEW => pnumber_any hW hEW hy
    · have e1 : aheadL y ++ inter (betwL y) (kidTx P k) ++ behL y = quoteL y.t := by rw [hk0, kidTx_zero]; unfold aheadL behL; rw [if_neg (by omega), if_pos ho, if_neg (by omega)]; simp [inter]
      rw [e1]
      exact psubfn_any h hE hy 2 ho (by decide) 44 (selfP g) rfl (enters_of Tryz.func44 (by kernel_rfl) rfl) fun W hW hEW => pquoted_any hW hEW hy
    · have e1 : aheadL y ++ inter (betwL y) (kidTx P k) ++ behL y = sTrue ++ inter [] (kidTx P k) ++ [] := by
        rw [hk0, kidTx_zero, show inter (betwL y) [] = inter [] [] from rfl]
        simp [aheadL, behL, ho]
      rw [e1]
      exact psubfn_any h hE hy 3 ho (by decide) 45 (wrapV g sTrue [] []) rfl (enters_of Tryz.func45 (by kernel_rfl) rfl) fun w h hE => W sTrue [] [] (by decide) (by decide) (by decide) w h hE
    · have e1 : aheadL y ++ inter (betwL y) (kidTx P k) ++ behL y = sFalse ++ inter [] (kidTx P k) ++ [] := by
        rw [hk0, kidTx_zero, show inter (betwL y) [] = inter [] [] from rfl]
        simp [aheadL, behL, ho]
      rw [e1]
      exact psubfn_any h hE hy 4 ho (by decide) 45 (wrapV g sFalse [] []) rfl (enters_of Tryz.func45 (by kernel_rfl) rfl) fun w h hE => W sFalse [] [] (by decide) (by decide) (by decide) w h hE
    · have e1 : aheadL y ++ inter (betwL y) (kidTx P k) ++ behL y = [45] ++ inter [] (kidTx P k) ++ [] := by
        rw [kidTx_one hk hk0 (betwL y) []]
        simp [aheadL, behL, ho]
      rw [e1]
      exact psubfn_any h hE hy 5 ho (by decide) 45 (wrapV g [45] [] []) rfl (enters_of Tryz.func45 (by kernel_rfl) rfl) fun w h hE => W [45] [] [] (by decide) (by decide) (by decide) w h hE
    · have e1 : aheadL y ++ inter (betwL y) (kidTx P k) ++ behL y = [40] ++ inter [32, 43, 32] (kidTx P k) ++ [41] := by
        simp [aheadL, behL, betwL, ho]
      rw [e1]
      exact psubfn_any h hE hy 6 ho (by decide) 45 (wrapV g [40] [32, 43, 32] [41]) rfl (enters_of Tryz.func45 (by kernel_rfl) rfl) fun w h hE => W [40] [32, 43, 32] [41] (by decide) (by decide) (by decide) w h hE
    · have e1 : aheadL y ++ inter (betwL y) (kidTx P k) ++ behL y = [40] ++ inter [32, 45, 32] (kidTx P k) ++ [41] := by
        simp [aheadL, behL, betwL, ho]
      rw [e1]
      exact psubfn_any h hE hy 7 ho (by decide) 45 (wrapV g [40] [32, 45, 32] [41]) rfl (enters_of Tryz.func45 (by kernel_rfl) rfl) fun w h hE => W [40] [32, 45, 32] [41] (by decide) (by decide) (by decide) w h hE
    · have e1 : aheadL y ++ inter (betwL y) (kidTx P k) ++ behL y = [40] ++ inter [32, 42, 32] (kidTx P k) ++ [41] := by
        simp [aheadL, behL, betwL, ho]
      rw [e1]
      exact psubfn_any h hE hy 8 ho (by decide) 45 (wrapV g [40] [32, 42, 32] [41]) rfl (enters_of Tryz.func45 (by kernel_rfl) rfl) fun w h hE => W [40] [32, 42, 32] [41] (by decide) (by decide) (by decide) w h hE
    · have e1 : aheadL y ++ inter (betwL y) (kidTx P k) ++ behL y = sCat ++ inter [44, 32] (kidTx P k) ++ [41] := by
        simp [aheadL, behL, betwL, ho]
      rw [e1]
      exact psubfn_any h hE hy 9 ho (by decide) 45 (wrapV g sCat [44, 32] [41]) rfl (enters_of Tryz.func45 (by kernel_rfl) rfl) fun w h hE => W sCat [44, 32] [41] (by decide) (by decide) (by decide) w h hE
    · have e1 : aheadL y ++ inter (betwL y) (kidTx P k) ++ behL y = sRep ++ inter [44, 32] (kidTx P k) ++ [41] := by
        simp [aheadL, behL, betwL, ho]
      rw [e1]
      exact psubfn_any h hE hy 10 ho (by decide) 45 (wrapV g sRep [44, 32] [41]) rfl (enters_of Tryz.func45 (by kernel_rfl) rfl) fun w h hE => W sRep [44, 32] [41] (by decide) (by decide) (by decide) w h hE
    · have e1 : aheadL y ++ inter (betwL y) (kidTx P k) ++ behL y = sLen ++ inter [] (kidTx P k) ++ [41] := by
        rw [kidTx_one hk hk0 (betwL y) []]
        simp [aheadL, behL, ho]
      rw [e1]
      exact psubfn_any h hE hy 11 ho (by decide) 45 (wrapV g sLen [] [41]) rfl (enters_of Tryz.func45 (by kernel_rfl) rfl) fun w h hE => W sLen [] [41] (by decide) (by decide) (by decide) w h hE
    · have e1 : aheadL y ++ inter (betwL y) (kidTx P k) ++ behL y = sHex ++ inter [] (kidTx P k) ++ [41] := by
        rw [kidTx_one hk hk0 (betwL y) []]
        simp [aheadL, behL, ho]
      rw [e1]
      exact psubfn_any h hE hy 12 ho (by decide) 45 (wrapV g sHex [] [41]) rfl (enters_of Tryz.func45 (by kernel_rfl) rfl) fun w h hE => W sHex [] [41] (by decide) (by decide) (by decide) w h hE
end Go.Proofs.YtipcgmaobiobbaaGreatDoor
