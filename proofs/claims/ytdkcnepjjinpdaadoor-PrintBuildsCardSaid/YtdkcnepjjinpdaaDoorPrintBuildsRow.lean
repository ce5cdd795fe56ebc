/-
  The text of a node is put together of the texts of its kids: for every input the law returns true, and the input reads behind the call as it did before. No condition on the input; the listed variables (the library's tables internal/strconv.uint64pow10, math/bits.deBruijn32tab and deBruijn64tab) start as the program's text lays them.
-/
import Derived.Test.YtdkcnepjjinpdaaDoorCards
import Derived.Test.YtdkcnepjjinpdaaDoorTie
import Derived.Test.YtdkcnepjjinpdaaDoorPrKit
import Derived.Test.YtdkcnepjjinpdaaDoorPrBuildsLaw
import Derived.Test.YtdkcnepjjinpdaaDoorPrOpen
import Derived.SevenTiedAt
namespace Go.Proofs.YtdkcnepjjinpdaaDoor.printBuilds
open Go.Shelf Go.ChangeShapes Go.WideShapes Go.ChangeAt Go.RowKit Go.Lib
open Go.ChangeMaps (open_string shut_string)

theorem witness_row (os : Os) {H : Type} (enc : TypeId × Value → H) :
    (OpenSpec.ofChange Rows.printBuildsSpec).preRow enc Tryd.prog Tryd.f5 Rows.printBuildsRow.domain false Rows.printBuildsRow.laid ((laidWorld os).forCall (fun _ _ => 0) ⟨#[], #[.agg #[.slice none 0 0, .slice none 0 0, .int .i64 0]], []⟩).memory #[.agg #[.slice none 0 0, .slice none 0 0, .int .i64 0]] := by
  have hw : (DataW.whole enc Tryd.prog ((laidWorld os).forCall (fun _ _ => 0) ⟨#[], #[.agg #[.slice none 0 0, .slice none 0 0, .int .i64 0]], []⟩).memory Tryd.f5.params.toList (OpenSpec.ofChange Rows.printBuildsSpec).vars false #[Value.agg #[Value.slice none 0 0, Value.slice none 0 0, Value.int .i64 0]].toList 8).map (fun x => (x.1, x.2.1)) =
      some ([.agg [.nil, .nil, .lit (.int .i64 0)]], []) := by kernel_rfl
  obtain ⟨⟨x1, x2, x3⟩, hx, hx1⟩ := Option.map_eq_some_iff.1 hw
  simp only [Prod.mk.injEq] at hx1
  obtain ⟨rfl, rfl⟩ := hx1
  exact OpenSpec.preRow_of_cond 8 hx (by kernel_rfl) (fun k hk => by cases hk) (by kernel_rfl) (prLaid_met os _)

set_option maxRecDepth 100000 in
theorem lifted (os : Os) (started : os.Started) (H : Type) (enc : TypeId × Value → H) (F : Stop.Interp) :
    ReturnsInHanded {} Tryd.checked os 5 .any ((OpenSpec.ofChange Rows.printBuildsSpec).preRow enc Tryd.prog Tryd.f5 Rows.printBuildsRow.domain false Rows.printBuildsRow.laid) (((OpenSpec.ofChange Rows.printBuildsSpec).at F).post enc Tryd.prog Tryd.f5 false true false false) := by
  refine returnsInHanded_of_row (C := Tryd.checked) (s := OpenSpec.ofChange Rows.printBuildsSpec) own started (by kernel_rfl) Tryd.func5
    (witness_row_atRef (enc := enc) (C := Tryd.checked) false (laidWorld os) #[.agg #[.slice none 0 0, .slice none 0 0, .int .i64 0]] rfl (by kernel_rfl) (by kernel_rfl) (by kernel_rfl) (witness_row os enc)) ?_
  intro W base args ds gs before hval0 hW _ _ hsz0 hL _ _
  have hL' : laidMetH Tryd.prog prLaid W := hL
  have hT : Ten W W.heap.size := prLaid_reads hL'
  have hval : ∀ (j : Nat) t v, Tryd.f5.params[j]? = some t → args[j]? = some v → Value.okWide Tryd.prog W .any base t v := hval0
  have hW' := hW
  obtain ⟨p, q, hA0, hV0, rfl, hfz, hnd⟩ := hW
  have hA : DataW.TrodAll enc Tryd.prog W 0 (fun _ => true) true Tryd.f5.params.toList args.toList ds p := hA0
  have hsz : (DataW.weightsEach Tryd.prog (Tryd.f5.params.toList ++ (OpenSpec.ofChange Rows.printBuildsSpec).bare.plain.varTypes Tryd.prog) (ds ++ gs)).all (· ≤ reachBytes) = true := hsz0
  clear hsz0
  rw [Tryd.params5] at hA hval hsz
  obtain ⟨v0, vs0, d0, ds0, p0, q0, hargs, rfl, rfl, h0, r0⟩ := trodAll_cons hA
  obtain ⟨rfl, rfl, rfl⟩ := trodAll_nil r0
  obtain rfl : args = #[v0] := by cases args; simp_all
  obtain ⟨rfl, rfl⟩ := trodVars_none hV0
  have k0 := h0
  have lt0 : ∀ x ∈ p0, x.block < W.heap.size := by obtain ⟨m, hm⟩ := k0; exact DataW.trod_lt m _ _ _ hm
  clear hA0 hV0 hval0
  have hf0 : Fitd Tryd.prog False 34 d0 := ⟨fun n hn => of_decide_eq_true (List.all_eq_true.1 hsz _ (DataW.weights_mem_each (j := 0) rfl rfl n hn)), False.elim⟩
  obtain ⟨cs0, rfl, hcs0, hfl0⟩ := open_struct Tryd.underlying34 (by kernel_rfl) (by kernel_rfl) (hval 0 34 v0 rfl rfl) h0 hf0
  obtain ⟨u0, q0, g0⟩ := hfl0 0 _ rfl
  obtain ⟨u1, q1, g1⟩ := hfl0 1 _ rfl
  obtain ⟨u2, q2, g2⟩ := hfl0 2 _ rfl
  obtain ⟨A0, c0, N0, rfl, n0, f0, _⟩ := open_nodes g0
  obtain ⟨A1, c1, N1, rfl, n1, f1, _⟩ := open_nodes g1
  obtain ⟨z2, rfl, _⟩ := fld_int Tryd.underlying3 g2
  obtain rfl := array3 hcs0 q0 q1 q2

  refine (builds_any hT n0 n1 f0 f1).mono fun e W' ⟨he, bel⟩ => ?_
  subst he
  exact ⟨_, rfl, _, _, _, [], _, [], hW', trodAll_mk1 (shut_bool Tryd.underlying4 _), (trodAll_cons_mk (Below.trod laidOut (by kernel_rfl) (of_decide_eq_true (by kernel_rfl)) k0 bel lt0) trodAll_mk0), rfl, bel.frame _, fun h => by cases h⟩

theorem said : Rows.PrintBuildsSaid :=
  OpenClaim.holds_of_cond 5 Tryd.f5 rfl rfl rfl rfl rfl rfl rfl ⟨rfl, rfl, rfl, rfl, rfl⟩ rfl rfl rfl rfl rfl (by kernel_rfl) Tryd.func5 (by kernel_rfl)
    (of_decide_eq_true (by kernel_rfl)) (by unfold Func.isWrapper; first | (rw [if_pos (by decide +kernel)]; kernel_rfl) | (rw [if_neg (by decide +kernel)]; exact ⟨rfl, rfl⟩))
    (fun os started H enc _ F0 => by rw [OpenClaim.pre_eq_preRow]; exact lifted os started H enc F0)

theorem proved : Rows.PrintBuildsCardSaid :=
  Claim7.holds_tied_plain_at .later [] [.data, .data, .data] true Rows.printBuildsCard.stood.harness true
    said (fun _ h => by cases h) (by kernel_rfl) (fun _ h => by cases h) printBuilds_row_tie rfl ⟨rfl, rfl⟩ (by kernel_rfl) rfl
    (fun f fn hf hfn => by
      obtain rfl : f = 5 := (Option.some.inj ((show Tryd.prog.funcNamed "stratum/stratumlaw10.PrintBuilds" = some 5 by kernel_rfl).symm.trans hf)).symm
      obtain rfl : fn = Tryd.f5 := (Option.some.inj (Tryd.func5.symm.trans hfn)).symm
      refine ⟨by kernel_rfl, fun j t ht => ?_⟩
      rw [Tryd.params5] at ht
      cases j with
      | zero =>
        obtain rfl : 34 = t := by simpa using ht
        kernel_rfl
      | succ j =>
        simp at ht)
    (by kernel_rfl)
end Go.Proofs.YtdkcnepjjinpdaaDoor.printBuilds
