/- What the rows of this layer share: the listed variables, as the rows list them; a start that fits. -/
import Derived.Test.YtnflbnchkcigiaaDoorRows
import Derived.Test.YtnflbnchkcigiaaDoorTaGc
import Derived.Lib.LaidIn
import Derived.Lib.LaidU8T
import Derived.Deep.DeepHandedRow
import Derived.Deep.DeepWitnessRowRef
import Derived.ProofKit
import Derived.OpenShut
import Derived.ShutString
import Derived.ChangeOld
import Derived.SizedLaws
namespace Go.Proofs.YtnflbnchkcigiaaDoor
open Go.Shelf Go.RowKit Go.Lib

theorem own : ownKnob Tryd.prog.godebug = none := by kernel_rfl
theorem laidOut : laidOutB Tryd.prog = true := by kernel_rfl
theorem u8types : U8Types Tryd.prog Tryd.lays196_ren := U8Types.of196 Tryd.lays196
theorem u8extra : U8Extra Tryd.prog Tryd.lays196_ren := ⟨by kernel_rfl, by kernel_rfl, by kernel_rfl, by kernel_rfl, by kernel_rfl, by kernel_rfl, by kernel_rfl⟩

/-- a listed variable that is one number -/
theorem int_of_reads {w : World} {n : String} {g : Nat} {z : Int} (h : VarReads Tryd.prog w n (.lit (.int .i64 z))) (hg : Tryd.prog.globalNamed n = some g) (hty : (Tryd.prog.globals[g]?).map (·.type) = some 3) :
    w.cell? ⟨g, 0, none⟩ = some (.int .i64 z) := by
  obtain ⟨g', t, cs, fuel, p, h1, h2, h3, h4⟩ := h
  obtain rfl := Option.some.inj (hg.symm.trans h1)
  obtain rfl := Option.some.inj (hty.symm.trans h2)
  obtain ⟨m, hc, hx, _⟩ := DataW.trod_int Tryd.underlying3 h4
  simp only [Prod.mk.injEq, DataW.lit.injEq, Lit.int.injEq, true_and] at hx
  rw [World.var?_cell h1 h3 0, ← Array.getElem?_toList, hc, hx.1]
  rfl
theorem first_same : (Rows.laid_unicode_utf8_first : DataW Unit) = Lib.firstData := by kernel_rfl
theorem accept_same : (Rows.laid_unicode_utf8_acceptRanges : DataW Unit) = Lib.acceptData := by kernel_rfl

/-- the listed variables, as the rows list them -/
def tlvLaid : List (String × DataW Unit) := [("unicode/utf8.acceptRanges", Rows.laid_unicode_utf8_acceptRanges), ("stratum/kind.uintNumber", Rows.laid_stratum_kind_uintNumber), ("stratum/kind.intNumber", Rows.laid_stratum_kind_intNumber), ("stratum/kind.boolNumber", Rows.laid_stratum_kind_boolNumber), ("stratum/kind.textNumber", Rows.laid_stratum_kind_textNumber), ("stratum/kind.bytesNumber", Rows.laid_stratum_kind_bytesNumber), ("unicode/utf8.first", Rows.laid_unicode_utf8_first)]
theorem tlvLaid_reads {W : World} (hL : laidMetH Tryd.prog tlvLaid W) : KSt W W := by
  unfold tlvLaid at hL
  rw [first_same, accept_same] at hL
  exact ⟨St.first (utf8Tabs_of_readsT u8types u8extra (Lib.laidMet.reads hL (.tail _ (.tail _ (.tail _ (.tail _ (.tail _ (.tail _ (.head _)))))))) (Lib.laidMet.reads hL (.head _))), ⟨int_of_reads (Lib.laidMet.reads hL (.tail _ (.head _))) (by kernel_rfl) (by kernel_rfl), int_of_reads (Lib.laidMet.reads hL (.tail _ (.tail _ (.head _)))) (by kernel_rfl) (by kernel_rfl), int_of_reads (Lib.laidMet.reads hL (.tail _ (.tail _ (.tail _ (.head _))))) (by kernel_rfl) (by kernel_rfl), int_of_reads (Lib.laidMet.reads hL (.tail _ (.tail _ (.tail _ (.tail _ (.head _)))))) (by kernel_rfl) (by kernel_rfl), int_of_reads (Lib.laidMet.reads hL (.tail _ (.tail _ (.tail _ (.tail _ (.tail _ (.head _))))))) (by kernel_rfl) (by kernel_rfl)⟩⟩

/-- a start that fits: the settled world, the variables holding what their initialisers lay -/
noncomputable def laidWorld (os : Os) : World :=
  let w0 := World.holding Tryd.prog os ⟨#[], #[], []⟩
  let put (h : Array Obj) (g : Nat) (cs : Array Value) : Array Obj := h.modify g fun
    | .cells _ t frozen => .cells cs t frozen
    | o => o
  let h1 := put w0.heap 5 (Lib.firstTab.map fun z => Value.int .u8 z).toArray
  let h2 := put h1 6 ((List.range 16).flatMap fun i => [Value.int .u8 (Lib.accLo i), Value.int .u8 (Lib.accHi i)]).toArray
  let h3 := put h2 0 #[.int .i64 1]
  let h4 := put h3 1 #[.int .i64 2]
  let h5 := put h4 2 #[.int .i64 3]
  let h6 := put h5 3 #[.int .i64 4]
  let h7 := put h6 4 #[.int .i64 5]
  { w0 with heap := h7 }
theorem tlvLaid_met (os : Os) (args : Array Value) : laidMet Tryd.prog tlvLaid ((laidWorld os).forCall (fun _ _ => 0) ⟨#[], args, []⟩).memory :=
  (LaidIn.of_run (l := tlvLaid) [0, 1, 2, 3, 4, 5, 6] 8 (by kernel_rfl) (by kernel_rfl) (by kernel_rfl) (by kernel_rfl)).met
end Go.Proofs.YtnflbnchkcigiaaDoor
