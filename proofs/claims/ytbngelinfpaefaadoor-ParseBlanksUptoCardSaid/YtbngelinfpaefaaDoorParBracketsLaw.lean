/- The walk of ParseBrackets. -/
import Derived.Test.YtbngelinfpaefaaDoorParBrkP
import Derived.Test.YtbngelinfpaefaaDoorParGm
namespace Go.Proofs.YtbngelinfpaefaaDoor
open Go.RowKit

def br1 (s : ByteArray) : ByteArray := (⟨#[40]⟩ ++ s) ++ ⟨#[10, 41]⟩
def br2 (s : ByteArray) : ByteArray := (⟨#[40]⟩ ++ s) ++ ⟨#[10, 41, 43, 49]⟩
theorem ls_br1 (s : ByteArray) : ls (br1 s) = 40 :: (ls s ++ [10, 41]) := by unfold br1; rw [ls_append, ls_append]; rfl
theorem ls_br2 (s : ByteArray) : ls (br2 s) = 40 :: (ls s ++ [10, 41, 43, 49]) := by unfold br2; rw [ls_append, ls_append]; rfl
theorem sz_br1 (s : ByteArray) : (br1 s).size = s.size + 3 := by rw [← ls_size, ls_br1, List.length_cons, List.length_append, ls_size]; rfl
theorem sz_br2 (s : ByteArray) : (br2 s).size = s.size + 5 := by rw [← ls_size, ls_br2, List.length_cons, List.length_append, ls_size]; rfl
theorem opk_no {x : Tk} (h : x.k ≠ 1) (h2 : x.k = 4 → x.t ≠ [40] ∧ x.t ≠ [45]) : opk x = false := by
  unfold opk
  rw [beq_eq_false_iff_ne.2 h, Bool.false_or]
  by_cases e : x.k = 4
  · obtain ⟨a, b⟩ := h2 e
    rw [beq_eq_false_iff_ne.2 a, beq_eq_false_iff_ne.2 b, Bool.or_false, Bool.and_false]
  · rw [beq_eq_false_iff_ne.2 e, Bool.false_and]
theorem opk_1 {x : Tk} (h : x.k = 1) : opk x = true := by unfold opk; rw [h]; rfl
theorem opk_4 {x : Tk} (h : x.k = 4) (h2 : x.t = [40] ∨ x.t = [45]) : opk x = true := by
  unfold opk
  rw [h]
  rcases h2 with e | e <;> rw [e] <;> rfl
/-- what is answered as an expression, in letters -/
theorem cval_let (w : World) (s : ByteArray) (hEV : EV w) (N : List Nd) (p x : Nat) (hN : (valS s).nds = N) (hp : (valS s).plc = p) (hx : (valS s).err = x) : Calls Tryd.prog 16 #[.string s] w fun e w' => ∃ An cn, e = .returned (.tuple #[.slice An N.length cn, .int .i64 (p : Nat), .int .i64 (x : Nat)]) ∧ Below w.heap.size w w' ∧ Hid (NRow w' w'.heap.size An N) := by
  refine (cvalue_any w s hEV).mono ?_
  rintro e w' ⟨An, cn, rfl, hb, ho⟩
  have h := ho.reads
  rw [hN] at h
  rw [hN, hp, hx]
  exact ⟨An, cn, rfl, hb, h⟩
theorem val_few (s : ByteArray) : (valS s).nds.length ≤ s.size + 1 := by
  by_cases he : (valS s).err = 0
  · obtain ⟨T, hL, _, h0, hv⟩ := val_ok he
    have hl := lex_len _ _ _ (Nat.le_refl _) hL
    rw [ls_size] at hl
    have hE := lex_ends _ _ _ (Nat.le_refl _) hL
    have hT : 0 < T.length := by
      obtain ⟨t, rfl⟩ := lex_last _ _ _ (Nat.le_refl _) hL
      simp
    have hN : ∀ x ∈ T, x.a ≤ s.size := fun x hx => by
      have := lex_order _ _ _ (Nat.le_refl _) hL x hx
      rw [ls_size] at this
      omega
    have h := val_all (place_ok hE hN) rfl hT rfl fun {p p'} h => by
      have e : p'.tok T = p.tok T := by unfold PS.tok; rw [h.i]; rfl
      show Tr _ (p.tok T) (p'.tok T)
      rw [e]
      exact ⟨rfl, rfl, rfl, rfl, hN _ (List.mem_of_getElem? (tok_at (T := T) (p := p) h.inn))⟩
    have hf := value_few T PS.zero
    have z : PS.zero.i = 0 := rfl
    rw [hv]
    rcases h with ⟨h, _⟩ | y
    · have hin : (PS.zero.value T).i < T.length := h.inn
      omega
    · exact absurd h0 y.1
  · rw [bad_nds he]
    exact Nat.zero_le _
theorem str_is {l m : List UInt8} (h : l = m) : ((str l).toList == m) = true := by rw [str_lit]; exact decide_eq_true h
theorem str_no {l m : List UInt8} (h : l ≠ m) : ((str l).toList == m) = false := by rw [str_lit]; exact decide_eq_false h

set_option maxRecDepth 100000 in
set_option maxHeartbeats 8000000 in
theorem brackets_any (w : World) (hEV : EV w) (s : ByteArray) : Calls Tryd.prog 4 #[.string s] w fun e w' => e = .returned (.bool true) ∧ Below w.heap.size w w' := by
  have ca := cawake_any w hEV
  by_cases hbig : 131072 < s.size
  · have hz : (131072 : Int) < (s.size : Int) := by omega
    go_enter Tryd.func4, Tryd.ntmps4
    go_wp2_with (go_at_call 13; refine ca.mono ?_; rintro e w1 ⟨rfl, hb1⟩)
    go_ret
    exact ⟨rfl, hb1⟩
  have hz : ¬ (131072 : Int) < (s.size : Int) := by omega
  have hs9 : s.size ≤ 131072 := by omega
  obtain ⟨N, hN⟩ : ∃ N, (valS s).nds = N := ⟨_, rfl⟩
  obtain ⟨p, hp⟩ : ∃ N, (valS s).plc = N := ⟨_, rfl⟩
  obtain ⟨x, hx⟩ : ∃ N, (valS s).err = N := ⟨_, rfl⟩
  have cn := fun W h => cval_let W s h N p x hN hp hx
  by_cases he : x = 0
  · have he' : (valS s).err = 0 := by rw [hx, he]
    obtain ⟨T, hL, hsz, _, _⟩ := val_ok he'
    have hTl := lex_len _ _ _ (Nat.le_refl _) hL
    rw [ls_size] at hTl
    have hT9 : T.length ≤ 200000 := by omega
    have hlx : lexS s = .ok T := by unfold lexS; rw [if_neg (by omega), hL]
    have cl : ∀ W, EV W → Calls Tryd.prog 14 #[.string s] W fun e w' => ∃ A c, e = .returned (.tuple #[.slice A T.length c, .int .i64 0, .int .i64 0]) ∧ Below W.heap.size W w' ∧ Hid (TRow w' w'.heap.size A T) := fun W h => (lex_any W s h).mono fun e w' h => by
      rw [hlx] at h
      obtain ⟨hb, A, c, h, ht⟩ := h
      exact ⟨A, c, h, hb, ht⟩
    obtain ⟨M, hM⟩ : ∃ N, (valS (br1 s)).nds = N := ⟨_, rfl⟩
    obtain ⟨p1, hp1⟩ : ∃ N, (valS (br1 s)).plc = N := ⟨_, rfl⟩
    obtain ⟨x1, hx1⟩ : ∃ N, (valS (br1 s)).err = N := ⟨_, rfl⟩
    obtain ⟨L, hL2⟩ : ∃ N, (valS (br2 s)).nds = N := ⟨_, rfl⟩
    obtain ⟨p2, hp2⟩ : ∃ N, (valS (br2 s)).plc = N := ⟨_, rfl⟩
    obtain ⟨x2, hx2⟩ : ∃ N, (valS (br2 s)).err = N := ⟨_, rfl⟩
    have CM : Hid (∀ W, EV W → Calls Tryd.prog 16 #[.string ((⟨#[40]⟩ ++ s) ++ ⟨#[10, 41]⟩)] W fun e w' => ∃ An cn, e = .returned (.tuple #[.slice An M.length cn, .int .i64 (p1 : Nat), .int .i64 (x1 : Nat)]) ∧ Below W.heap.size W w' ∧ Hid (NRow w' w'.heap.size An M)) := fun W h => cval_let W (br1 s) h M p1 x1 hM hp1 hx1
    have CK : Hid (∀ W, EV W → Calls Tryd.prog 16 #[.string ((⟨#[40]⟩ ++ s) ++ ⟨#[10, 41, 43, 49]⟩)] W fun e w' => ∃ An cn, e = .returned (.tuple #[.slice An L.length cn, .int .i64 (p2 : Nat), .int .i64 (x2 : Nat)]) ∧ Below W.heap.size W w' ∧ Hid (NRow w' w'.heap.size An L)) := fun W h => cval_let W (br2 s) h L p2 x2 hL2 hp2 hx2
    have bN : N.length ≤ 140000 := by have := val_few s; rw [hN] at this; omega
    have bM : M.length ≤ 140000 := by have := val_few (br1 s); rw [hM, sz_br1] at this; omega
    have bL : L.length ≤ 140000 := by have := val_few (br2 s); rw [hL2, sz_br2] at this; omega
    -- what the two answers are
    have V1 : Hid ((x1 = 0 ∧ Rel2 (Nr (More 1 true)) N M ∧ Rel2 (Nr fun a a' => a' = a + 1) N M) ∨ (x1 = 91 ∧ M = [] ∧ 99 ≤ cnt T T.length)) := by
      rcases val_br he' (ls_br1 s) (by rw [sz_br1]; omega) with ⟨a, b⟩ | ⟨a, b, T', c, d⟩
      · rw [hM] at b
        left
        have q := val_more1 hs9 b
        rw [hN] at q b
        exact ⟨hx1.symm.trans a, q, b⟩
      · rw [hL] at c
        cases c
        exact .inr ⟨hx1.symm.trans a, hM.symm.trans b, d⟩
    have V2 : Hid ((x2 = 0 ∧ Rel2 (Nr (More 0 true)) L L ∧ ∃ m, Rel2 (Nr fun a a' => a' = a + 1) N m ∧ L = m ++ [⟨1, 0, 1, [], s.size + 4⟩, ⟨6, 0, 0, [], s.size + 3⟩]) ∨ (x2 = 91 ∧ L = [])) := by
      rcases val_br1 he' (ls_br2 s) (by rw [sz_br2]; omega) with ⟨a, m, b, c⟩ | ⟨a, b⟩
      · left
        have q := val_more (br2 s) (by rw [sz_br2]; omega)
        rw [hL2] at q c
        rw [hN] at b
        exact ⟨hx2.symm.trans a, q, m, b, c⟩
      · exact .inr ⟨hx2.symm.trans a, hL2.symm.trans b⟩
    have hxz : ((x : Int) != 0) = false := by rw [he]; rfl
    clear he he' hL hsz hTl hlx hM hp1 hx1 hL2 hp2 hx2 hN hp hx hbig
    go_enter Tryd.func4, Tryd.ntmps4
    go_wp2_with (first
      | (go_at_call 13; refine ca.mono ?_; rintro e w1 ⟨rfl, hb1⟩; have e1 := hEV.below hb1)
      | (go_at_call 16; (with_reducible refine (cn _ e1).mono ?_); rintro e w2 ⟨An, c1, rfl, hb2, H2⟩; have e2 := e1.below hb2)
      | (go_at_call 14; (with_reducible refine (cl _ e2).mono ?_); rintro e w3 ⟨At, c2, rfl, hb3, HT⟩; have e3 := e2.below hb3; have H3 := Lib.hid (H2.out.then_ hb3)))
    have G3 : Hid (Below w.heap.size w w3) := Below.both (Below.both hb1 hb2) hb3
    have E3 := Lib.hid e3
    clear cn cl ca e1 e2 e3 hb1 hb2 hb3 H2 hEV
    go_loopw [10, 11] (fun o i wr => Hid (w3 = wr) ∧ ∃ k : Nat, o = .int .i64 (cnt T k : Nat) ∧ i = .int .i64 k ∧ k ≤ T.length) (fun _ i _ => T.length - (intOf i).toNat)
    case atStart => exact ⟨Lib.hid rfl, 0, rfl, rfl, Nat.zero_le _⟩
    case round =>
      obtain ⟨hw, k, rfl, rfl, hk⟩ := hrel
      obtain rfl := hw.out
      have hck := cnt_le T k
      obtain ⟨o9, ho9⟩ : ∃ o, cnt T k = o := ⟨_, rfl⟩
      rw [ho9] at hck ⊢
      by_cases hlt : k < T.length
      · have hltz : (k : Int) < (T.length : Int) := by omega
        have k0 : (0 : Int) ≤ (k : Int) := by omega
        obtain ⟨y, hy⟩ : ∃ f, T[k]? = some f := ⟨T[k], List.getElem?_eq_getElem hlt⟩
        have HN := Lib.hid (cnt_next hy)
        obtain ⟨g, o, rfl, _, c0, c1', _, _, _⟩ := HT.out.at_ hy
        have HO := Lib.hid ho9
        clear hy ho9
        have fin : ∀ b : Bool, opk y = b → cnt T (k + 1) = o9 + (if b then 1 else 0) := fun b hb => by rw [HN.out, hb, HO.out]
        by_cases q1 : y.k = 1
        · have q1z : ((y.k : Int) == 1) = true := by rw [q1]; rfl
          have HF := Lib.hid (fin true (opk_1 q1))
          clear fin q1
          go_wp2
          go_roundw
          case rel => exact ⟨Lib.hid trivial, k + 1, by rw [HF.out]; simp, by go_num, by omega⟩
          case measure => simp [intOf]; omega
        · have q1z : ((y.k : Int) == 1) = false := beq_eq_false_iff_ne.2 (by omega)
          by_cases q4 : y.k = 4
          · have q4z : ((y.k : Int) == 4) = true := by rw [q4]; rfl
            by_cases t1 : y.t = [40]
            · have t1z := str_is t1
              have HF := Lib.hid (fin true (opk_4 q4 (.inl t1)))
              clear fin q1 q4 t1
              go_wp2
              go_roundw
              case rel => exact ⟨Lib.hid trivial, k + 1, by rw [HF.out]; simp, by go_num, by omega⟩
              case measure => simp [intOf]; omega
            · have t1z := str_no t1
              by_cases t2 : y.t = [45]
              · have t2z := str_is t2
                have HF := Lib.hid (fin true (opk_4 q4 (.inr t2)))
                clear fin q1 q4 t1 t2
                go_wp2
                go_roundw
                case rel => exact ⟨Lib.hid trivial, k + 1, by rw [HF.out]; simp, by go_num, by omega⟩
                case measure => simp [intOf]; omega
              · have t2z := str_no t2
                have HF := Lib.hid (fin false (opk_no q1 fun _ => ⟨t1, t2⟩))
                clear fin q1 q4 t1 t2
                go_wp2
                go_roundw
                case rel => exact ⟨Lib.hid trivial, k + 1, by rw [HF.out]; simp, by go_num, by omega⟩
                case measure => simp [intOf]; omega
          · have q4z : ((y.k : Int) == 4) = false := beq_eq_false_iff_ne.2 (by omega)
            have HF := Lib.hid (fin false (opk_no q1 fun z => absurd z q4))
            clear fin q1 q4
            go_wp2
            go_roundw
            case rel => exact ⟨Lib.hid trivial, k + 1, by rw [HF.out]; simp, by go_num, by omega⟩
            case measure => simp [intOf]; omega
      · have hge : ¬ (k : Int) < (T.length : Int) := by omega
        have hkT : k = T.length := by omega
        have V1' := V1.out
        have V2' := V2.out
        clear V1 V2
        rcases V1' with ⟨rfl, v2, v3⟩ | ⟨rfl, rfl, v3⟩
        · have R1 := Lib.hid v2
          have R2 := Lib.hid v3
          clear v2 v3
          rcases V2' with ⟨rfl, u2, m, u3, u4⟩ | ⟨rfl, rfl⟩
          · have U2 := Lib.hid u2
            have U4 : Hid (M ++ [⟨1, 0, 1, [], s.size + 4⟩, ⟨6, 0, 0, [], s.size + 3⟩] = L) := by
              have e : m = M := nr_func (R := fun a a' => a' = a + 1) (fun a b c h1 h2 => by omega) R2.out u3
              rw [u4, e]
              rfl
            clear u2 u3 u4 hlt hk ho9 hck hkT
            have hofs : (o9 : Int) < 99 ∨ ¬ (o9 : Int) < 99 := by omega
            have hcl : (#[.int .i64 1, .int .i64 0, .int .u64 1, .string ⟨#[]⟩, .int .i64 (1 + (s.size : Int) + 2 + 1), .int .i64 6, .int .i64 0, .int .u64 0, .string ⟨#[]⟩, .int .i64 (1 + (s.size : Int) + 2)] : Array Value).toList = flatN [⟨1, 0, 1, [], s.size + 4⟩, ⟨6, 0, 0, [], s.size + 3⟩] := by
              have a1 : 1 + (s.size : Int) + 2 + 1 = ((s.size + 4 : Nat) : Int) := by omega
              have a2 : 1 + (s.size : Int) + 2 = ((s.size + 3 : Nat) : Int) := by omega
              rw [a1, a2]
              rfl
            have HCL := Lib.hid hcl
            have hlM : (M ++ [⟨1, 0, 1, [], s.size + 4⟩, ⟨6, 0, 0, [], s.size + 3⟩] : List Nd).length = M.length + 2 := List.length_append
            have HLM := Lib.hid hlM
            clear hcl hlM
            rcases hofs with hof | hof
            all_goals
              go_wp2_with (first
                | (go_at_call 16; (with_reducible refine (CM.out _ E3.out).mono ?_); rintro e w4 ⟨Am, c4, rfl, hb4, H4⟩; have H34 := Lib.hid (H3.out.then_ hb4))
                | (go_at_call 19; (with_reducible refine (nodes_any 1 true H34.out H4.out R1.out (Nat.le_trans bN (by decide))).mono ?_); rintro e w5 ⟨rfl, hb5⟩; have e5 := (E3.out.below hb4).below hb5)
                | (go_at_call 16; (with_reducible refine (CK.out _ e5).mono ?_); rintro e w6 ⟨Ak, c6, rfl, hb6, H6⟩
                   have f6 : Below w6.heap.size w6 (w6.alloc (.cells #[] 47)) := (Below.refl _ w6).alloc (Nat.le_refl _) _
                   obtain ⟨A7, c7, w7, r7, o7, b7⟩ := run_app_nds (c2 := c4) (own_nds0 w6 w6.heap.size (Nat.le_refl _)) (((H4.out.then_ hb5).then_ hb6).then_ f6) M rfl M.length rfl (by omega) f6.size
                   have R7 := Lib.hid r7
                   have b67 : Below w6.heap.size w6 w7 := f6.trans b7
                   have f7 : Below w7.heap.size w7 (w7.alloc (.cells #[.int .i64 1, .int .i64 0, .int .u64 1, .string ⟨#[]⟩, .int .i64 (1 + (s.size : Int) + 2 + 1), .int .i64 6, .int .i64 0, .int .u64 0, .string ⟨#[]⟩, .int .i64 (1 + (s.size : Int) + 2)] 47)) := (Below.refl _ w7).alloc (Nat.le_refl _) _
                   obtain ⟨A8, c8, w8, r8, o8, b8⟩ := run_app_nds (c2 := 2) (o7.then_ f7) (nrow_new w7 #[.int .i64 1, .int .i64 0, .int .u64 1, .string ⟨#[]⟩, .int .i64 (1 + (s.size : Int) + 2 + 1), .int .i64 6, .int .i64 0, .int .u64 0, .string ⟨#[]⟩, .int .i64 (1 + (s.size : Int) + 2)] [⟨1, 0, 1, [], s.size + 4⟩, ⟨6, 0, 0, [], s.size + 3⟩] 47 HCL.out) (M ++ [⟨1, 0, 1, [], s.size + 4⟩, ⟨6, 0, 0, [], s.size + 3⟩]) rfl 2 rfl (by rw [HLM.out]; omega) (by have := b67.size; have := f7.size; omega)
                   have b68 : Below w6.heap.size w6 w8 := (b67.trans (f7.mono b67.size)).trans b8
                   have B8 := Lib.hid b68
                   have HW : Hid (NRow w8 w8.heap.size A8 L) := by rw [← U4.out]; exact o8.reads
                   have HK : Hid (NRow w8 w8.heap.size Ak L) := H6.out.then_ b68
                   have hL8 : (M ++ [⟨1, 0, 1, [], s.size + 4⟩, ⟨6, 0, 0, [], s.size + 3⟩] : List Nd).length = L.length := by rw [U4.out]
                   rw [hL8] at r8
                   have R8 := Lib.hid r8
                   clear r7 o7 b7 f6 f7 r8 o8 b8 b67 b68 hL8)
                | (at_builtin; refine wpList_append_run rfl (.tmp 139) (.tmp 140) _ rfl rfl rfl R7.out ?_)
                | (at_builtin; refine wpList_append_run rfl (.tmp 141) (.tmp 147) _ rfl rfl rfl R8.out ?_)
                | (go_at_call 19; (with_reducible refine (nodes_any 0 true HW.out HK.out U2.out (Nat.le_trans bL (by decide))).mono ?_); rintro e w9 ⟨rfl, hb9⟩))
              go_ret
              exact ⟨rfl, Below.both (Below.both (Below.both (Below.both (Below.both G3.out hb4) hb5) hb6) B8.out) hb9⟩
          · clear hlt hk ho9 hck hkT
            go_wp2_with (first
              | (go_at_call 16; (with_reducible refine (CM.out _ E3.out).mono ?_); rintro e w4 ⟨Am, c4, rfl, hb4, H4⟩; have H34 := Lib.hid (H3.out.then_ hb4))
              | (go_at_call 19; (with_reducible refine (nodes_any 1 true H34.out H4.out R1.out (Nat.le_trans bN (by decide))).mono ?_); rintro e w5 ⟨rfl, hb5⟩; have e5 := (E3.out.below hb4).below hb5)
              | (go_at_call 16; (with_reducible refine (CK.out _ e5).mono ?_); rintro e w6 ⟨Ak, c6, rfl, hb6, H6⟩))
            all_goals
              go_ret
              exact ⟨rfl, Below.both (Below.both (Below.both G3.out hb4) hb5) hb6⟩
        · have hof : ¬ (o9 : Int) < 99 := by rw [← hkT] at v3; omega
          clear v3 hlt hk ho9 hck hkT
          rcases V2' with ⟨rfl, _, m, _, _⟩ | ⟨rfl, rfl⟩
          · go_wp2_with (first
              | (go_at_call 16; (with_reducible refine (CM.out _ E3.out).mono ?_); rintro e w4 ⟨Am, c4, rfl, hb4, H4⟩; have e5 := E3.out.below hb4)
              | (go_at_call 16; (with_reducible refine (CK.out _ e5).mono ?_); rintro e w6 ⟨Ak, c6, rfl, hb6, H6⟩))
            go_ret
            exact ⟨rfl, Below.both (Below.both G3.out hb4) hb6⟩
          · go_wp2_with (first
              | (go_at_call 16; (with_reducible refine (CM.out _ E3.out).mono ?_); rintro e w4 ⟨Am, c4, rfl, hb4, H4⟩; have e5 := E3.out.below hb4)
              | (go_at_call 16; (with_reducible refine (CK.out _ e5).mono ?_); rintro e w6 ⟨Ak, c6, rfl, hb6, H6⟩))
            go_ret
            exact ⟨rfl, Below.both (Below.both G3.out hb4) hb6⟩
  · have hn : N = [] := by rw [← hN]; exact bad_nds (by rw [hx]; exact he)
    subst hn
    have hxz : ((x : Int) != 0) = true := by simp; omega
    clear hN hp hx he hbig
    go_enter Tryd.func4, Tryd.ntmps4
    go_wp2_with (first
      | (go_at_call 13; refine ca.mono ?_; rintro e w1 ⟨rfl, hb1⟩; have e1 := hEV.below hb1)
      | (go_at_call 16; (with_reducible refine (cn _ e1).mono ?_); rintro e w2 ⟨An, c1, rfl, hb2, H2⟩))
    go_ret
    exact ⟨rfl, Below.both hb1 hb2⟩
end Go.Proofs.YtbngelinfpaefaaDoor
