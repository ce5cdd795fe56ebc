/- What the rows share: the wraps that keep the world's shape, the arguments opened, the second form's bound. No walk here. -/
import Derived.Test.YtbaoaamaameddaaRows
import Derived.Test.YtbaoaamaameddaaPartMem
import Derived.ProofKit
import Derived.OpenShut
import Derived.ShutString
import Derived.ChangeOld
import Derived.Below
import Derived.SizedLaws
import Derived.HandedShaped
import Derived.JoinedCond
import Derived.Lib.SmallJoins
namespace Go.Proofs.Ytbaoaamaameddaa
open Go.ChangeShapes Go.WideShapes Go.ChangeAt Go.RowKit Go.Joins

theorem own : ownKnob Try.prog.godebug = none := by kernel_rfl
theorem laidOut : laidOutB Try.prog = true := by kernel_rfl

/-- the library's variable, out of the world's shape -/
theorem ml_of {W : World} (h : W.ShapedOpen Try.prog) : ML W := Try.laysM143.s1_3 W h

section
variable {H : Type} {enc : TypeId × Value → H}

/-- The wrap of a row with a condition of its own, the world's shape handed to the contract. -/
theorem cond_shaped {C : Checked} {os : Os} {f : FuncId} {fn : Func} {s : OpenSpec} {k : (H : Type) → List (DataW H) → Bool} (hk : s.cond = some k) {F : Stop.Interp} {conds : List PathCond} {apart fresh handsOn again : Bool}
    (ho : ownKnob C.prog.godebug = none) (started : os.Started) (noInit : C.prog.inits.idxOf? f = none) (hfn : C.prog.funcs[f]? = some fn)
    (witness : ∃ (w : World) (tape : Tape) (i : Input), w.os = os ∧ (w.forCall tape i).Shaped C.prog ∧ i.vars = [] ∧ Input.okWide C.prog (w.forCall tape i) .any w.heap.size f i ∧
      s.pre6 enc C.prog fn conds apart (w.forCall tape i).memory i.args ∧ ({} : Assume).holds C.prog (lone (Frame.enter C.prog f i.args .normal) [] (w.forCall tape i)))
    (contract : ∀ (W : World) (base : Nat) (args : Array Value) (ds gs : List (DataW H)) (before : List MemPlace),
      (∀ (j : Nat) t v, fn.params[j]? = some t → args[j]? = some v → Value.okWide C.prog W .any base t v) →
      DataW.Whole enc C.prog fn.params.toList s.vars apart W args.toList ds gs before → k H (ds ++ gs) = true → W.ShapedOpen C.prog →
      Calls C.prog f args W fun e W' => ∃ v, e = .returned v ∧ (s.at F).post enc C.prog fn apart fresh handsOn again W args v W') :
    ReturnsInHanded {} C os f .any (s.pre6 enc C.prog fn conds apart) ((s.at F).post enc C.prog fn apart fresh handsOn again) := by
  refine returnsInHanded_of_calls ho started noInit witness ?_
  intro w tape i _ hsh _ hok hpre _
  obtain ⟨_, _, _, fn', hfn', _, _, _, _, hval⟩ := hok
  obtain rfl : fn' = fn := Option.some.inj (hfn'.symm.trans hfn)
  obtain ⟨ds, gs, before, hw, _, hkk⟩ := (OpenSpec.pre_some hk conds apart _ _).1 hpre.1
  refine (contract (w.forCall tape i) w.heap.size i.args ds gs before hval (DataW.Whole.of_heap (w' := w.forCall tape i) (by rfl) hw) hkk hsh).mono ?_
  rintro e W' ⟨v, rfl, hp⟩
  exact ChangeSpec.post_blind hp

theorem of_wf64 {n : Int} (h : (Lit.int .u64 n).wf = true) : 0 ≤ n ∧ n ≤ 18446744073709551615 := by
  have := range_u64 (zs := [n]) (by simpa using h) 0
  simpa using this
theorem of_wf8 {n : Int} (h : (Lit.int .u8 n).wf = true) : 0 ≤ n ∧ n ≤ 255 := by
  have := range_u8 (zs := [n]) (by simpa using h) 0
  simpa using this

theorem text_le {P : Program} {ts : List TypeId} {ds : List (DataW H)} (hsz : (DataW.weightsEach P ts ds).all (· ≤ reachBytes) = true) {j : Nat} {t : TypeId} {s : ByteArray} (ht : ts[j]? = some t) (hd : ds[j]? = some (.lit (.string s.data.toList))) : s.size ≤ 140737488351232 := by
  have h := sized_string hsz ht hd
  have hr : reachBytes ≤ 140737488351232 := by decide
  rw [← Lib.size_eq] at h
  omega

/-- what the second form's bound says -/
theorem bulk_le {l : List (DataW H)} (h : Rows.uptoSmall H l = true) : Rows.uptoBulkAll l ≤ 1048576 := of_decide_eq_true h
theorem bulk_text (s : ByteArray) : Rows.uptoBulk (DataW.lit (H := H) (.string s.data.toList)) = s.size + 1 := by
  simp only [Rows.uptoBulk]
  rw [← Lib.size_eq]
theorem bulk_int (k : IntKind) (x : Int) : Rows.uptoBulk (DataW.lit (H := H) (.int k x)) = 1 := by simp only [Rows.uptoBulk]

theorem open_four {w : World} {base : Nat} {v : Value} {d : DataW H} {p : List MemPlace} (hval : Value.okWide Try.prog w .any base 36 v)
    (h : DataW.Trod enc Try.prog w 0 (fun _ => true) true 36 v d p) :
    ∃ a b c e : ByteArray, v = .agg #[.string a, .string b, .string c, .string e] ∧ Rows.uptoBulk d = a.size + b.size + c.size + e.size + 5 := by
  obtain ⟨v0, v1, v2, v3, y0, y1, y2, y3, n, rfl, rfl, _, t0, t1, t2, t3⟩ := open_agg4 Try.underlying36 (by kernel_rfl) (by kernel_rfl) hval h
  obtain ⟨a, q0, e0, _⟩ := DataW.trod_string Try.underlying9 t0
  obtain ⟨b, q1, e1, _⟩ := DataW.trod_string Try.underlying9 t1
  obtain ⟨c, q2, e2, _⟩ := DataW.trod_string Try.underlying9 t2
  obtain ⟨e, q3, e3, _⟩ := DataW.trod_string Try.underlying9 t3
  simp only [List.cons.injEq, and_true] at q0 q1 q2 q3
  subst q0 q1 q2 q3
  refine ⟨a, b, c, e, rfl, ?_⟩
  rw [e0, e1, e2, e3]
  simp only [Rows.uptoBulk, Rows.uptoBulkAll]
  rw [← Lib.size_eq, ← Lib.size_eq, ← Lib.size_eq, ← Lib.size_eq]
  omega
end
end Go.Proofs.Ytbaoaamaameddaa
