/- The walk of the code: the subtrees of nodes. -/
import Derived.Test.YtmbiompmhaiehaaDoorPoJoin
import Derived.Test.YtmbiompmhaiehaaDoorPoOwn
import Derived.BigQuiet
import Derived.Deep.OwnRows
import Derived.Deep.DeepCutAuto
namespace Go.Proofs.YtmbiompmhaiehaaDoor
open Go.RowKit

theorem expr_top {N : List Rn} {e : Pe} {P : List Pe} (h : pileP N N.length = some (e :: P)) : exprP N = if e.fi = 0 then some e else none := by
  have hc := (pile_chain _ _ h).2.2
  unfold exprP
  rw [h]
  cases P with
  | nil =>
    have : e.fi = 0 := hc
    rw [if_pos this]
  | cons a r =>
    have : a.r + 1 = e.fi := hc.1
    rw [if_neg (by omega)]
theorem expr_none {N : List Rn} (i : Nat) (h : pileP N i = none) (hi : i ≤ N.length) : exprP N = none := by
  unfold exprP
  rw [pile_none h _ hi]
theorem push_arity {N : List Rn} {i : Nat} {x : Rn} {P : List Pe} (hP : pileP N i = some P) (hx : N[i]? = some x) : pileP N (i + 1) = pushP i x P := by
  conv => lhs; unfold pileP
  rw [hP, hx]
theorem known_push {N : List Rn} {i k : Nat} {x : Rn} {P : List Pe} {F D : List Nat} (hP : pileP N i = some P) (hx : N[i]? = some x) (ha : arity x = some k) (hk : k ≤ P.length) (hK : Known N F D i) (hF : F.length = N.length) (hD : D.length = N.length) :
    Known N (F.set i (bottom i (P.take k))) (D.set i (deepest (P.take k) + 1)) (i + 1) ∧ ∃ Q, pileP N (i + 1) = some Q := by
  have hq : pileP N (i + 1) = some (overP i x (P.take k) :: P.drop k) := by
    rw [push_arity hP hx]
    unfold pushP
    rw [ha]
    dsimp only
    rw [if_pos hk]
  have hi : i < N.length := (List.getElem?_eq_some_iff.1 hx).1
  refine ⟨fun j hj => ?_, _, hq⟩
  by_cases hji : j = i
  · subst hji
    refine ⟨_, ⟨_, hq⟩, ?_, ?_⟩
    · rw [List.getElem?_set_self (by omega)]
      rfl
    · rw [List.getElem?_set_self (by omega)]
      rfl
  · obtain ⟨e, h1, h2, h3⟩ := hK j (by omega)
    exact ⟨e, h1, by rw [List.getElem?_set_ne (by omega)]; exact h2, by rw [List.getElem?_set_ne (by omega)]; exact h3⟩

theorem arity_le {x : Rn} {k : Nat} (h : arity x = some k) (hx : x.n ≤ 9223372036854775807) : k ≤ 9223372036854775807 := by
  unfold arity at h
  repeat' split at h
  all_goals first
    | (cases h; omega)
    | (cases h; done)
/-- a struct in a block and a value: what is answered -/
theorem results_cv {P : Program} {fn : Func} {s t : Tmp} {T : TypeId} (h : fn.results = #[.cell s T, .tmp t]) (tmps : Array Value) (w : World) (b : Nat) (cs : Array Value) (u : Value)
    (hp : tmps.getD s undef = .pointer (some ⟨b, 0, none⟩)) (he : tmps.getD t undef = u) (hb : CB w b T cs) {d : TypeDesc} (hu : P.underlying T = some d) (hd : d.isRow = true) (hi : (P.info? T).map (·.size) = some cs.size) : (results fn tmps).run P w = .ok (.tuple #[.agg cs, u]) w := by
  unfold results
  rw [h]
  have hp' : tmps[s]?.getD undef = .pointer (some ⟨b, 0, none⟩) := by simpa [Array.getD_eq_getD_getElem?] using hp
  have he' : tmps[t]?.getD undef = u := by simpa [Array.getD_eq_getD_getElem?] using he
  simp [hp', he', asAddr, hb.load hu hd hi]
theorem nums_zero (n : Nat) : (madeCells #[Value.int .i64 0] n) = nums (List.replicate n 0) := by
  apply Array.ext
  · rw [size_madeCells, nums_size, List.length_replicate]
  · intro i h1 h2
    simp [madeCells, nums, Nat.mod_one]

/-- what Subtrees answers -/
def SubsAt (A : Option Addr) (c : Nat) (N : List Rn) (w : World) (e : Ending) (w' : World) : Prop :=
  ∃ (m : Nat) (As : Option Addr) (cs : Nat), e = .returned (.tuple #[.slice As m cs, .bool (exprP N).isSome]) ∧ Hid (Below w.heap.size w w' ∧ m ≤ N.length ∧ (∃ P, pileP N m = some P) ∧ (m < N.length → pileP N (m + 1) = none) ∧
    ∃ x f d F D, Xb w' x f d A c N F D ∧ Known N F D m ∧ (w.heap.size ≤ x ∧ w.heap.size ≤ f ∧ w.heap.size ≤ d) ∧ OwnK w' w.heap.size As cs x (List.range m))
/-- the frame of Subtrees: the expression's blocks -/
structure Wf (w0 w : World) (x f d : Nat) (A : Option Addr) (c : Nat) (N : List Rn) (F D : List Nat) : Prop where
  xb : Xb w x f d A c N F D
  bl : Below w0.heap.size w0 w
  ge : w0.heap.size ≤ x ∧ w0.heap.size ≤ f ∧ w0.heap.size ≤ d
  lt : x < w0.heap.size + 3 ∧ f < w0.heap.size + 3 ∧ d < w0.heap.size + 3

theorem wf_start (w : World) (A : Option Addr) (c : Nat) (N : List Rn) (f d : Nat) (hfd : f = w.heap.size ∧ d = w.heap.size + 1 ∨ f = w.heap.size + 1 ∧ d = w.heap.size) :
    Wf w (((w.alloc (.cells (madeCells #[.int .i64 0] N.length) 3)).alloc (.cells (madeCells #[.int .i64 0] N.length) 3)).alloc (.cells #[.slice A N.length c, .slice (some ⟨f, 0, none⟩) N.length N.length, .slice (some ⟨d, 0, none⟩) N.length N.length] 81)).drew
      (w.heap.size + 1 + 1) f d A c N (List.replicate N.length 0) (List.replicate N.length 0) := by
  rw [nums_zero]
  obtain ⟨w2, h2⟩ : ∃ w2, w2 = w.alloc (.cells (nums (List.replicate N.length 0)) 3) := ⟨_, rfl⟩
  obtain ⟨w3, h3⟩ : ∃ w3, w3 = w2.alloc (.cells (nums (List.replicate N.length 0)) 3) := ⟨_, rfl⟩
  obtain ⟨w4, h4⟩ : ∃ w4, w4 = w3.alloc (.cells #[.slice A N.length c, .slice (some ⟨f, 0, none⟩) N.length N.length, .slice (some ⟨d, 0, none⟩) N.length N.length] 81) := ⟨_, rfl⟩
  rw [← h2, ← h3, ← h4]
  have s2 : w2.heap.size = w.heap.size + 1 := by rw [h2]; simp
  have s3 : w3.heap.size = w.heap.size + 1 + 1 := by rw [h3]; simp [s2]
  have b2 : Below w.heap.size w w2 := by rw [h2]; exact (Below.refl _ w).alloc (Nat.le_refl _) _
  have b3 : Below w2.heap.size w2 w3 := by rw [h3]; exact (Below.refl _ w2).alloc (Nat.le_refl _) _
  have b4 : Below w3.heap.size w3 w4 := by rw [h4]; exact (Below.refl _ w3).alloc (Nat.le_refl _) _
  have r2 : CB w2 w.heap.size 3 (nums (List.replicate N.length 0)) := by rw [h2]; exact CB.new w _ _
  have r3 : CB w3 (w.heap.size + 1) 3 (nums (List.replicate N.length 0)) := by rw [← s2, h3]; exact CB.new w2 _ _
  have r4 : CB w4 (w.heap.size + 1 + 1) 81 #[.slice A N.length c, .slice (some ⟨f, 0, none⟩) N.length N.length, .slice (some ⟨d, 0, none⟩) N.length N.length] := by rw [← s3, h4]; exact CB.new w3 _ _
  have k2 := (r2.below b3).below b4
  have k3 := r3.below b4
  have hx : Xb w4 (w.heap.size + 1 + 1) f d A c N (List.replicate N.length 0) (List.replicate N.length 0) := by
    rcases hfd with ⟨rfl, rfl⟩ | ⟨rfl, rfl⟩
    · exact ⟨r4, k2, k3, List.length_replicate, List.length_replicate, by omega⟩
    · exact ⟨r4, k3, k2, List.length_replicate, List.length_replicate, by omega⟩
  exact ⟨hx.keep rfl rfl rfl, Below.thenN ((b2.trans (b3.mono (by omega))).trans (b4.mono (by omega))) 1, by omega, by omega⟩

set_option maxRecDepth 100000 in
set_option maxHeartbeats 4000000 in
theorem psubs_any {w : World} {A : Option Addr} {c : Nat} {N : List Rn} (h : RN w w.heap.size A N) (hN : N.length ≤ 2932031007402) (hn : ∀ x ∈ N, x.n ≤ 9223372036854775807) :
    Calls Tryd.prog 23 #[.slice A N.length c] w (SubsAt A c N w) := by
  have hmk := run_make_row' (P := Tryd.prog) 72 3 (.int .i64 0) 8 Tryd.underlying72 (by kernel_rfl) rfl .i64 .i64 N.length (by omega) (by omega)
  have HR := Lib.hid h
  have HN := Lib.hid hn
  clear h hn
  go_enter Tryd.func23, Tryd.ntmps23
  go_wp2
  go_cut [4] (fun s4 wx => ∃ x : Nat, s4 = .pointer (some ⟨x, 0, none⟩) ∧ Hid (∃ f d, Wf w wx x f d A c N (List.replicate N.length 0) (List.replicate N.length 0)))
  case first =>
    go_region
    all_goals
      go_wp2_with fail
      go_meet
      first
      | exact ⟨_, rfl, _, _, wf_start w A c N _ _ (.inr ⟨rfl, rfl⟩)⟩
      | exact ⟨_, rfl, _, _, wf_start w A c N _ _ (.inl ⟨rfl, rfl⟩)⟩
  case rest =>
    obtain ⟨x, rfl, f, d, hw0⟩ := hcut
    have HW0 := Lib.hid hw0
    clear hw0 hmk
    go_wp2
    go_loopw [5, 21] (fun v u wr => ∃ (i : Nat) (As : Option Addr) (cs : Nat) (F D : List Nat), v = .slice As i cs ∧ u = .int .i64 i ∧ i ≤ N.length ∧ Hid (Wf w wr x f d A c N F D ∧ Known N F D i ∧ (∃ P, pileP N i = some P) ∧ OwnK wr (w.heap.size + 3) As cs x (List.range i))) (fun _ u _ => N.length - (intOf u).toNat)
    case atStart => exact ⟨0, none, 0, _, _, rfl, rfl, Nat.zero_le _, HW0.out, fun j hj => absurd hj (Nat.not_lt_zero j), ⟨[], rfl⟩, OwnK.nil _ _ _⟩
    case round =>
      clear HW0
      obtain ⟨i, As, cs, F, D, rfl, rfl, hil, HF⟩ := hrel
      have hlr : (List.range i).length = i := List.length_range
      have ENDX : Hid (∀ (W : World) (b : Bool), Wf w W x f d A c N F D → OwnK W (w.heap.size + 3) As cs x (List.range i) → (i < N.length → pileP N (i + 1) = none) → (exprP N).isSome = b → SubsAt A c N w (.returned (.tuple #[.slice As i cs, .bool b])) W) := fun W b hW hO hp hb => by
        refine ⟨i, As, cs, by rw [hb], hW.bl, hil, HF.out.2.2.1, hp, x, f, d, F, D, hW.xb, HF.out.2.1, hW.ge, ?_⟩
        exact ownsRow_low hO (by omega)
      by_cases hlt : i < N.length
      · have hiz : (i : Int) < (N.length : Int) := by omega
        have hi0 : (0 : Int) ≤ (i : Int) := by omega
        obtain ⟨y, hy⟩ : ∃ y, N[i]? = some y := ⟨_, List.getElem?_eq_getElem hlt⟩
        have hyn := HN.out y (List.mem_of_getElem? hy)
        obtain ⟨b, o, rfl, hbw, n0, n1, n2, n3, n4⟩ := RN.cells (HR.out.below HF.out.1.bl) hy
        obtain ⟨P, hP⟩ := HF.out.2.2.1
        have hws := HF.out.1.bl.size
        have hblt : b < wr.heap.size := by omega
        have hba : Below wr.heap.size wr (wr.alloc (.cells #[.int .i64 y.op, .int .i64 y.n, .int .u64 (y.num : Nat), .string (str y.t), .int .i64 y.a] 27)) := (Below.refl _ wr).alloc (Nat.le_refl _) _
        have hsa : (wr.alloc (.cells #[.int .i64 y.op, .int .i64 y.n, .int .u64 (y.num : Nat), .string (str y.t), .int .i64 y.a] 27)).heap.size = wr.heap.size + 1 := by simp
        have hca : CB (wr.alloc (.cells #[.int .i64 y.op, .int .i64 y.n, .int .u64 (y.num : Nat), .string (str y.t), .int .i64 y.a] 27)) wr.heap.size 27 #[.int .i64 y.op, .int .i64 y.n, .int .u64 (y.num : Nat), .string (str y.t), .int .i64 y.a] := CB.new wr _ _
        have c0 : (wr.alloc (.cells #[.int .i64 y.op, .int .i64 y.n, .int .u64 (y.num : Nat), .string (str y.t), .int .i64 y.a] 27)).cell? ⟨wr.heap.size, 0, none⟩ = some (.int .i64 y.op) := hca.at_ 0
        have c1 : (wr.alloc (.cells #[.int .i64 y.op, .int .i64 y.n, .int .u64 (y.num : Nat), .string (str y.t), .int .i64 y.a] 27)).cell? ⟨wr.heap.size, 1, none⟩ = some (.int .i64 y.n) := hca.at_ 1
        have c2 : (wr.alloc (.cells #[.int .i64 y.op, .int .i64 y.n, .int .u64 (y.num : Nat), .string (str y.t), .int .i64 y.a] 27)).cell? ⟨wr.heap.size, 2, none⟩ = some (.int .u64 (y.num : Nat)) := hca.at_ 2
        have c3 : (wr.alloc (.cells #[.int .i64 y.op, .int .i64 y.n, .int .u64 (y.num : Nat), .string (str y.t), .int .i64 y.a] 27)).cell? ⟨wr.heap.size, 3, none⟩ = some (.string (str y.t)) := hca.at_ 3
        have c4 : (wr.alloc (.cells #[.int .i64 y.op, .int .i64 y.n, .int .u64 (y.num : Nat), .string (str y.t), .int .i64 y.a] 27)).cell? ⟨wr.heap.size, 4, none⟩ = some (.int .i64 y.a) := hca.at_ 4
        have CK := Lib.hid (kidsOf_any (wr.alloc (.cells #[.int .i64 y.op, .int .i64 y.n, .int .u64 (y.num : Nat), .string (str y.t), .int .i64 y.a] 27)) y)
        have hwx : Hid (∀ W, Below wr.heap.size wr W → Wf w W x f d (some ⟨b, o, none⟩) c N F D ∧ OwnK W (w.heap.size + 3) As cs x (List.range i)) := fun W hW => ⟨⟨HF.out.1.xb.below hW, HF.out.1.bl.trans (hW.mono (by omega)), HF.out.1.ge, HF.out.1.lt⟩, HF.out.2.2.2.keep fun k _ hk => hW.block k hk⟩
        clear hca
        cases har : arity y with
        | none =>
          have hpn : pileP N (i + 1) = none := by rw [push_arity hP hy]; unfold pushP; rw [har]
          have HE : Hid ((exprP N).isSome = false ∧ pileP N (i + 1) = none) := ⟨by rw [expr_none (i + 1) hpn hlt]; rfl, hpn⟩
          have ck : Calls Tryd.prog 42 #[.agg #[.int .i64 y.op, .int .i64 y.n, .int .u64 (y.num : Nat), .string (str y.t), .int .i64 y.a]] (wr.alloc (.cells #[.int .i64 y.op, .int .i64 y.n, .int .u64 (y.num : Nat), .string (str y.t), .int .i64 y.a] 27)) fun e w' => ∃ k : Int, e = .returned (.tuple #[.int .i64 k, .bool false]) ∧ Below (wr.alloc (.cells #[.int .i64 y.op, .int .i64 y.n, .int .u64 (y.num : Nat), .string (str y.t), .int .i64 y.a] 27)).heap.size (wr.alloc (.cells #[.int .i64 y.op, .int .i64 y.n, .int .u64 (y.num : Nat), .string (str y.t), .int .i64 y.a] 27)) w' := CK.out.mono fun e w' h => by
            obtain ⟨k, bb, he, hb, h1, h2⟩ := h
            cases bb with
            | false => exact ⟨k, he, hb⟩
            | true => obtain ⟨n, _, hh⟩ := h1 rfl; rw [har] at hh; cases hh
          clear hy hP har CK hpn
          go_wp2_with (go_at_call 42; refine ck.mono ?_; rintro e w3 ⟨kk, rfl, hb3⟩; have F3 := hwx.out w3 (hba.trans (hb3.mono (by omega))))
          refine bodyPost_ret (v := .tuple #[.slice As i cs, .bool false]) (results_2 rfl _ _ _ _ rfl rfl) rfl ?_
          exact ENDX.out _ _ F3.1 F3.2 (fun _ => HE.out.2) HE.out.1
        | some n =>
          have hn9 := arity_le har hyn
          have ck : Calls Tryd.prog 42 #[.agg #[.int .i64 y.op, .int .i64 y.n, .int .u64 (y.num : Nat), .string (str y.t), .int .i64 y.a]] (wr.alloc (.cells #[.int .i64 y.op, .int .i64 y.n, .int .u64 (y.num : Nat), .string (str y.t), .int .i64 y.a] 27)) fun e w' => e = .returned (.tuple #[.int .i64 (n : Nat), .bool true]) ∧ Below (wr.alloc (.cells #[.int .i64 y.op, .int .i64 y.n, .int .u64 (y.num : Nat), .string (str y.t), .int .i64 y.a] 27)).heap.size (wr.alloc (.cells #[.int .i64 y.op, .int .i64 y.n, .int .u64 (y.num : Nat), .string (str y.t), .int .i64 y.a] 27)) w' := CK.out.mono fun e w' h => by
            obtain ⟨k, bb, he, hb, h1, h2⟩ := h
            cases bb with
            | false => have := h2 rfl; rw [har] at this; cases this
            | true =>
              obtain ⟨m, hm, hh⟩ := h1 rfl
              rw [har] at hh
              cases hh
              subst hm
              exact ⟨he, hb⟩
          by_cases hle : n ≤ P.length
          · have hdt : decide (n ≤ P.length) = true := decide_eq_true hle
            obtain ⟨hk2, hq2⟩ := known_push hP hy har hle HF.out.2.1 HF.out.1.xb.fl HF.out.1.xb.dl
            have CJ : Hid (∀ W, Below wr.heap.size wr W → Calls Tryd.prog 43 #[.pointer (some ⟨x, 0, none⟩), .int .i64 (i : Nat), .int .i64 (n : Nat)] W fun e w' => e = .returned (.bool true) ∧
                ∃ g c' w5, Hid ((Builtin.append_ #[57, 57] 57 #[.slice As i cs, .slice (some ⟨w'.heap.size, 0, none⟩) 1 1]).run Tryd.prog (w'.alloc (.cells #[.pointer (some ⟨x, 0, none⟩), .int .i64 (i : Nat)] 43)) = .ok (.slice (some ⟨g, 0, none⟩) (i + 1) c') w5) ∧
                Hid (∃ F' D', Wf w w5 x f d (some ⟨b, o, none⟩) c N F' D' ∧ Known N F' D' (i + 1) ∧ (∃ Q, pileP N (i + 1) = some Q) ∧ OwnK w5 (w.heap.size + 3) (some ⟨g, 0, none⟩) c' x (List.range (i + 1)))) := fun W hW => by
              obtain ⟨FW, OW⟩ := hwx.out W hW
              obtain ⟨g1, g2, g3⟩ := FW.ge
              obtain ⟨l1, l2, l3⟩ := FW.lt
              obtain ⟨e1, e2⟩ := FW.xb.xf
              have e3 := FW.xb.ne
              have m1 := FW.xb.cb.len
              have m2 := FW.xb.fb.len
              have m3 := FW.xb.db.len
              refine (pjoin_any (B := w.heap.size) FW.xb hP HF.out.2.1 hlt (by omega) hn9 g2 g3).mono ?_
              rintro e w' ⟨he, h1, h2, h3, _⟩
              have hX := h2 hle
              have n1 := hX.cb.len
              have n2 := hX.fb.len
              have n3 := hX.db.len
              have hO' : OwnK w' (w.heap.size + 3) As cs x (List.range i) := OW.keep fun k hk hk2 => h3 k hk2 (by omega) (by omega)
              obtain ⟨g, c', w5, hrun, hown, hbl⟩ := run_app_sub hO' i (by rw [hlr]; omega) (by omega)
              rw [hlr] at hrun
              rw [← List.range_succ] at hown
              refine ⟨by rw [he, hdt], g, c', w5, hrun, _, _, ⟨hX.keep (hbl.block x (by omega)) (hbl.block f (by omega)) (hbl.block d (by omega)), FW.bl.trans (h1.trans (hbl.mono (by omega))), FW.ge, FW.lt⟩, hk2, hq2, hown⟩
            clear hk2 hq2 hdt hle hy hP har CK hn9
            go_wp2_with (first
            | (go_at_call 42; refine ck.mono ?_; rintro e w3 ⟨rfl, hb3⟩; have h3 : Below wr.heap.size wr w3 := hba.trans (hb3.mono (by omega)))
            | (go_at_call 43; refine (CJ.out w3 h3).mono ?_; rintro e w4 ⟨rfl, g, c', w5, HRUN, H5⟩)
            | (at_builtin; refine wpList_append_run rfl (.tmp 41) (.tmp 45) _ rfl rfl rfl HRUN.out ?_))
            obtain ⟨F', D', hh⟩ := H5.out
            go_roundw
            case rel => exact ⟨i + 1, _, c', F', D', by simp, by go_num, by omega, hh⟩
            case measure => simp [intOf]; omega
          · have hdf : decide (n ≤ P.length) = false := decide_eq_false hle
            have hpn : pileP N (i + 1) = none := by rw [push_arity hP hy]; unfold pushP; rw [har]; dsimp only; rw [if_neg hle]
            have HE : Hid ((exprP N).isSome = false ∧ pileP N (i + 1) = none) := ⟨by rw [expr_none (i + 1) hpn hlt]; rfl, hpn⟩
            have CJ : Hid (∀ W, Below wr.heap.size wr W → Calls Tryd.prog 43 #[.pointer (some ⟨x, 0, none⟩), .int .i64 (i : Nat), .int .i64 (n : Nat)] W fun e w' => e = .returned (.bool false) ∧ Hid (Wf w w' x f d (some ⟨b, o, none⟩) c N F D ∧ OwnK w' (w.heap.size + 3) As cs x (List.range i))) := fun W hW => by
              obtain ⟨FW, OW⟩ := hwx.out W hW
              obtain ⟨g1, g2, g3⟩ := FW.ge
              refine (pjoin_any (B := w.heap.size) FW.xb hP HF.out.2.1 hlt (by omega) hn9 g2 g3).mono ?_
              rintro e w' ⟨he, _, _, _, h4⟩
              obtain rfl := h4 hle
              exact ⟨by rw [he, hdf], FW, OW⟩
            clear hdf hle hy hP har CK hn9 hpn
            go_wp2_with (first
            | (go_at_call 42; refine ck.mono ?_; rintro e w3 ⟨rfl, hb3⟩; have h3 : Below wr.heap.size wr w3 := hba.trans (hb3.mono (by omega)))
            | (go_at_call 43; refine (CJ.out w3 h3).mono ?_; rintro e w4 ⟨rfl, H4⟩))
            refine bodyPost_ret (v := .tuple #[.slice As i cs, .bool false]) (results_2 rfl _ _ _ _ rfl rfl) rfl ?_
            exact ENDX.out _ _ H4.out.1 H4.out.2 (fun _ => HE.out.2) HE.out.1
      · obtain rfl : i = N.length := by omega
        have hiz : ¬ (N.length : Int) < (N.length : Int) := by omega
        by_cases h0 : N.length = 0
        · have HE : Hid ((exprP N).isSome = false) := by unfold Hid; rw [expr_nil h0]; rfl
          have hgz : decide ((0 : Int) < (N.length : Int)) = false := decide_eq_false (by omega)
          have hgn : decide (0 < N.length) = false := decide_eq_false (by omega)
          clear h0
          go_wp2
          go_quiet (fail)
          go_wp2
          refine bodyPost_ret (v := .tuple #[.slice As N.length cs, .bool false]) (results_2 rfl _ _ _ _ rfl rfl) rfl ?_
          exact ENDX.out _ _ ⟨HF.out.1.xb.keep rfl rfl rfl, Below.thenN HF.out.1.bl _, HF.out.1.ge, HF.out.1.lt⟩ HF.out.2.2.2 (fun z => absurd z (Nat.lt_irrefl _)) HE.out
        · have hgz : decide ((0 : Int) < (N.length : Int)) = true := decide_eq_true (by omega)
          have hgn : decide (0 < N.length) = true := decide_eq_true (by omega)
          obtain ⟨la, hla⟩ : ∃ la : Nat, N.length - 1 = la := ⟨_, rfl⟩
          have hlaz : (N.length : Int) - 1 = (la : Int) := by omega
          have hla0 : (0 : Int) ≤ (la : Int) := by omega
          have hlal : (la : Int) < (N.length : Int) := by omega
          have x1 : wr.cell? ⟨x, 1, none⟩ = some (.slice (some ⟨f, 0, none⟩) N.length N.length) := HF.out.1.xb.cb.at_ 1
          obtain ⟨P, hP⟩ := HF.out.2.2.1
          obtain ⟨e, hpe, hF, hD⟩ := HF.out.2.1 la (by omega)
          obtain ⟨P', hP'⟩ := hpe
          have hex := expr_top (N := N) (e := e) (P := P') (by rw [show N.length = la + 1 by omega]; exact hP')
          have q := nums_at HF.out.1.xb.fb (i := la) (by rw [HF.out.1.xb.fl]; omega)
          have q1 : wr.cell? ⟨f, la, none⟩ = some (.int .i64 (e.fi : Nat)) := by
            rw [q]
            obtain ⟨_, z⟩ := List.getElem?_eq_some_iff.1 hF
            rw [z]
          have HEX := Lib.hid hex
          clear hex hP hP' hF hD q hla h0
          by_cases hz : e.fi = 0
          · have hzz : ((e.fi : Int) == 0) = true := by rw [hz]; rfl
            have HE : Hid ((exprP N).isSome = true) := by unfold Hid; rw [HEX.out, if_pos hz]; rfl
            clear hz
            go_wp2
            go_quiet (fail)
            go_wp2
            refine bodyPost_ret (v := .tuple #[.slice As N.length cs, .bool true]) (results_2 rfl _ _ _ _ rfl rfl) rfl ?_
            exact ENDX.out _ _ ⟨HF.out.1.xb.keep rfl rfl rfl, Below.thenN HF.out.1.bl _, HF.out.1.ge, HF.out.1.lt⟩ HF.out.2.2.2 (fun z => absurd z (Nat.lt_irrefl _)) HE.out
          · have hzz : ((e.fi : Int) == 0) = false := beq_eq_false_iff_ne.2 (by omega)
            have HE : Hid ((exprP N).isSome = false) := by unfold Hid; rw [HEX.out, if_neg hz]; rfl
            clear hz
            go_wp2
            go_quiet (fail)
            go_wp2
            refine bodyPost_ret (v := .tuple #[.slice As N.length cs, .bool false]) (results_2 rfl _ _ _ _ rfl rfl) rfl ?_
            exact ENDX.out _ _ ⟨HF.out.1.xb.keep rfl rfl rfl, Below.thenN HF.out.1.bl _, HF.out.1.ge, HF.out.1.lt⟩ HF.out.2.2.2 (fun z => absurd z (Nat.lt_irrefl _)) HE.out
end Go.Proofs.YtmbiompmhaiehaaDoor
