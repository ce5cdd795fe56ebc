/- The walks of the reference: Rep, Hex. -/
import Derived.Test.YtbaoaamaameddaaPartHex
import Derived.Lib.AppendStr
namespace Go.Proofs.Ytbaoaamaameddaa
open Go.RowKit
open Go.Lib (byteCells)

/-- At the operation, out of a run equation, of any two types. -/
theorem wpList_append_run2 {P : Program} {w w' : World} {ops : Array Oper} {rest : List Oper} {o : Oper} {a : Act} {Q : Exit → Act → World → Prop} (hgd : o.guard = none) (s x : Operand) (T U : TypeId)
    (ho : o.op = .call { callee := .builtin .append, args := #[s, x], argTypes := #[T, U] }) {u v v' : Value} (hs : a.eval s = u) (hx : a.eval x = v)
    (hrun : (Builtin.append_ #[T, U] o.type #[u, v]).run P w = .ok v' w') (h : wpList P ops Q rest (a.put o.dst v') w') : wpList P ops Q (o :: rest) a w :=
  wpList_plain hgd fun _ hK => by
    unfold Oper.wp execOp
    simp only [ho, resolve, invoke, builtin, Sem.run_bind, Sem.run_pure, Result.andThen_ok, List.map_toArray, List.map_cons, List.map_nil, hs, hx, hrun]
    exact hK _ _ h

theorem own_empty (w : World) (T : TypeId) (base : Nat) (hb : base ≤ w.heap.size) (hT : T = 5) : OwnB (w.alloc (.cells #[] T)) base 5 (some ⟨w.heap.size, 0, none⟩) 0 [] := by
  subst hT
  exact ⟨rfl, .inr ⟨w.heap.size, 0, _, rfl, hb, heap_alloc_new w _, Nat.le_refl _, Nat.zero_le _, rfl, rfl⟩⟩

theorem own_text {w : World} {base : Nat} {v : Value} {n : Nat} {l : List UInt8} (h : w.ownsRow base 5 1 v n (byteCells l)) (hn : n = l.length) : ∃ A c, v = .slice A l.length c ∧ OwnB w base 5 A c l := by
  subst hn
  rcases h.2 with ⟨rfl, h0⟩ | ⟨g, cap, cur, rfl, rest⟩
  · exact ⟨none, 0, by rw [h0], by unfold OwnB; rw [h0] at h ⊢; exact h⟩
  · exact ⟨some ⟨g, 0, none⟩, cap, rfl, h⟩

/-- a text appended -/
theorem run_app_text {w : World} {base : Nat} {A : Option Addr} {c : Nat} {pre : List UInt8} (ho : OwnB w base 5 A c pre) (s : ByteArray) (r : List UInt8) (hr : r = pre ++ ls s) (hm : r.length ≤ 140737488355328) (hbase : base ≤ w.heap.size) :
    ∃ A' c' w', (Builtin.append_ #[39, 9] 39 #[.slice A pre.length c, .string s]).run Try.prog w = .ok (.slice A' r.length c') w' ∧ OwnB w' base 5 A' c' r ∧ Below base w w' := by
  obtain ⟨i0, hi, hz0, hz1, hz2⟩ := info_parts infoB
  have hl : r.length = pre.length + s.size := by rw [hr, List.length_append, ls_size]
  obtain ⟨v', w', h1, h2, h3, _⟩ := Go.Lib.run_append_own_string (P := Try.prog) w base 39 9 39 5 i0 Try.underlying39 Try.underlying9 hi hz0 hz1 hz2 (.slice A pre.length c) pre.length (byteCells pre) ho s
    (by simp only [maxLen]; omega) (by omega) hbase
  rw [strCells_ls, ← Go.Lib.byteCells_append, ← hr] at h2
  obtain ⟨A', c', rfl, ho'⟩ := own_text h2 (by omega)
  exact ⟨A', c', w', h1, ho', (Below.refl base w).grown h3 hbase fun k hk => (ho.lt k hk).1⟩

set_option maxRecDepth 100000 in
set_option maxHeartbeats 2000000 in
theorem rrep_any {w : World} (s : ByteArray) (n : Nat) (hn : n ≤ 18446744073709551615) (hs : s.size ≤ 9223372036854775807) :
    Calls Try.prog 19 #[.string s, .int .u64 n] w fun e w' => e = .returned (.tuple #[.string (repT s n), .int .i64 (repE s n)]) ∧ Below w.heap.size w w' := by
  unfold repT repE
  by_cases h0 : s.size = 0
  · rw [rp_empty h0, h0, Nat.mul_zero, if_pos (Nat.zero_le _), if_pos (Nat.zero_le _)]
    obtain rfl := size_zero h0
    clear h0 hs
    go_enter Try.func19, Try.ntmps19
    go_wp2
    go_ret2
    exact ⟨rfl, Below.refl _ _⟩
  · have he := isEmpty_no h0
    by_cases hn0 : n = 0
    · subst hn0
      rw [Nat.zero_mul, if_pos (Nat.zero_le _), if_pos (Nat.zero_le _), rp_zero]
      clear h0 hs
      go_enter Try.func19, Try.ntmps19
      go_wp2
      go_ret2
      exact ⟨rfl, Below.refl _ _⟩
    · have hn1 : ((n : Int) == 0) = false := by simpa using hn0
      have hz : (n : Int) ≠ 0 := by omega
      by_cases hle : n * s.size ≤ 4096
      · rw [if_pos hle, if_pos hle]
        have hn2 : n ≤ 4096 := by
          have : n * 1 ≤ n * s.size := Nat.mul_le_mul_left _ (by omega)
          omega
        have hq0 : ¬ (4096 : Int) < (n : Int) := by omega
        have hq : ¬ ((4096 : Int) / (n : Int) < (s.size : Int)) := by
          have h1 : s.size ≤ 4096 / n := (Nat.le_div_iff_mul_le (by omega)).2 (by rw [Nat.mul_comm]; exact hle)
          have h2 : (4096 : Int) / (n : Int) = ((4096 / n : Nat) : Int) := rfl
          rw [h2]
          omega
        have hown := own_empty w 5 w.heap.size (Nat.le_refl _) rfl
        have hb0 : Below w.heap.size w (w.alloc (.cells #[] 5)) := (Below.refl _ w).alloc (Nat.le_refl _) _
        have HLE := Lib.hid hle
        clear hle
        go_enter Try.func19, Try.ntmps19
        go_wp2
        clear hq hq0
        go_loopw [6, 7] (fun o v wr => ∃ (k : Nat) (A : Option Addr) (c : Nat) (pre : List UInt8), o = .slice A pre.length c ∧ v = .int .u64 k ∧ k ≤ n ∧ Hid (pre = rpL s k) ∧ Hid (OwnB wr w.heap.size 5 A c pre) ∧ Below w.heap.size w wr) (fun _ v _ => n - (intOf v).toNat)
        case atStart => exact ⟨0, _, _, [], rfl, rfl, Nat.zero_le _, rfl, hown, hb0⟩
        case round =>
          obtain ⟨k, A, c, pre, rfl, rfl, hk, HP, HO, hbw⟩ := hrel
          by_cases hlt : k < n
          · obtain ⟨r, hr⟩ : ∃ r, r = pre ++ ls s := ⟨_, rfl⟩
            have hr2 : r = rpL s (k + 1) := by rw [hr, HP.out, rpL_succ]
            have hrl : r.length ≤ 4096 := by
              rw [hr2, rpL_len]
              exact Nat.le_trans (Nat.mul_le_mul_right _ hlt) HLE.out
            obtain ⟨A', c', w4, ha, ho4, hb4⟩ := run_app_text HO.out s r hr (by omega) hbw.size
            have HA := Lib.hid ha
            have HR := Lib.hid hr2
            have HO4 := Lib.hid ho4
            clear ha hr hr2 ho4 hrl
            go_wp2_with (at_builtin; refine wpList_append_run2 rfl (.tmp 30) (.tmp 31) _ _ rfl rfl rfl HA.out ?_)
            go_roundw
            case rel => exact ⟨k + 1, A', c', r, rfl, by go_num, by omega, HR, HO4, hbw.trans hb4⟩
            case measure => simp [intOf]; omega
          · obtain rfl : k = n := by omega
            have hst := own_byt HO.out c
            go_wp2
            go_ret2
            have e : rp s k = str pre := by unfold rp; rw [HP.out]
            rw [e]
            exact ⟨rfl, hbw⟩
      · rw [if_neg hle, if_neg hle]
        by_cases hq0 : (4096 : Int) < (n : Int)
        · clear hle
          go_enter Try.func19, Try.ntmps19
          go_wp2
          go_ret2
          exact ⟨rfl, Below.refl _ _⟩
        · have hq : (4096 : Int) / (n : Int) < (s.size : Int) := by
            have h1 : 4096 / n < s.size := (Nat.div_lt_iff_lt_mul (by omega)).2 (by rw [Nat.mul_comm]; omega)
            have h2 : (4096 : Int) / (n : Int) = ((4096 / n : Nat) : Int) := rfl
            rw [h2]
            omega
          clear hle
          go_enter Try.func19, Try.ntmps19
          go_wp2
          go_ret2
          exact ⟨rfl, Below.refl _ _⟩

set_option maxRecDepth 100000 in
set_option maxHeartbeats 2000000 in
theorem rhex_any {w : World} (s : ByteArray) (hs : s.size ≤ 140737488355328) :
    Calls Try.prog 21 #[.string s] w fun e w' => e = .returned (.tuple #[.string (hexT s), .int .i64 (hexE s)]) ∧ Below w.heap.size w w' := by
  obtain ⟨T, hT⟩ : ∃ T, hexT s = T := ⟨_, rfl⟩
  obtain ⟨E, hE⟩ : ∃ E, hexE s = E := ⟨_, rfl⟩
  rw [hT, hE]
  have HT := Lib.hid hT
  have HE := Lib.hid hE
  have bad : hexL (ls s) = none → Hid (T = ByteArray.empty ∧ E = 111) := fun h => by
    obtain ⟨a, b⟩ := hex_none h
    exact ⟨HT.out.symm.trans a, HE.out.symm.trans b⟩
  have good : ∀ t, hexL (ls s) = some t → Hid (T = str t ∧ E = 0) := fun t h => by
    obtain ⟨a, b⟩ := hex_some h
    exact ⟨HT.out.symm.trans a, HE.out.symm.trans b⟩
  have BAD := Lib.hid bad
  have GOOD := Lib.hid good
  clear hT hE bad good HT HE
  by_cases hodd : s.size % 2 = 0
  · have q0 : (s.size : Int) % 2 = 0 := by omega
    have hown := own_empty w 5 w.heap.size (Nat.le_refl _) rfl
    go_enter Try.func21, Try.ntmps21
    go_wp2
    clear q0
    go_loopw [4, 5] (fun o v wr => ∃ (k : Nat) (A : Option Addr) (c : Nat) (pre : List UInt8), o = .slice A pre.length c ∧ v = .int .i64 k ∧ k ≤ s.size ∧ k % 2 = 0 ∧ pre.length ≤ k ∧ Hid (OwnB wr w.heap.size 5 A c pre) ∧ Hid (Dec s k pre) ∧ Below w.heap.size w wr) (fun _ v _ => s.size - (intOf v).toNat)
    case atStart => exact ⟨0, _, _, [], rfl, rfl, Nat.zero_le _, rfl, Nat.le_refl _, hown, dec_start s, (Below.refl _ w).alloc (Nat.le_refl _) _⟩
    case round =>
      obtain ⟨k, A, c, pre, rfl, rfl, hk, hk2, hpk, HO, HD, hbw⟩ := hrel
      by_cases hlt : k < s.size
      · have hlt1 : k + 1 < s.size := by omega
        have hltz : (k : Int) < (s.size : Int) := by omega
        have hltz1 : (k : Int) + 1 < (s.size : Int) := by omega
        obtain ⟨x, hx⟩ : ∃ x, s[k]'hlt = x := ⟨_, rfl⟩
        obtain ⟨y, hy⟩ : ∃ y, s[k + 1]'hlt1 = y := ⟨_, rfl⟩
        have cx := fun W => rdigit_any W x.toNat (by have := x.toNat_lt; omega)
        have cy := fun W => rdigit_any W y.toNat (by have := y.toNat_lt; omega)
        by_cases hd : dv x.toNat = 16 ∨ dv y.toNat = 16
        · have hb := BAD.out (dec_bad HD.out hlt1 hx hy hd)
          obtain ⟨rfl, rfl⟩ := hb.out
          obtain ⟨p, hp⟩ : ∃ p, dv x.toNat = p := ⟨_, rfl⟩
          obtain ⟨q, hq⟩ : ∃ q, dv y.toNat = q := ⟨_, rfl⟩
          rw [hp, hq] at hd
          rw [hp] at cx
          rw [hq] at cy
          clear BAD GOOD hb hp hq
          by_cases h1 : p = 16
          · subst h1
            clear hd
            go_wp2_with (first
              | (go_at_call 27; (with_reducible refine (cx _).mono ?_); rintro e w2 ⟨rfl, rfl⟩)
              | (go_at_call 27; (with_reducible refine (cy _).mono ?_); rintro e w2 ⟨rfl, rfl⟩))
            go_ret2
            exact ⟨rfl, hbw⟩
          · have h2 : q = 16 := hd.resolve_left h1
            subst h2
            have h3 : ((p : Int) == 16) = false := by simp; omega
            clear hd
            go_wp2_with (first
              | (go_at_call 27; (with_reducible refine (cx _).mono ?_); rintro e w2 ⟨rfl, rfl⟩)
              | (go_at_call 27; (with_reducible refine (cy _).mono ?_); rintro e w2 ⟨rfl, rfl⟩))
            go_ret2
            exact ⟨rfl, hbw⟩
        · have hdx : dv x.toNat ≠ 16 := fun h => hd (.inl h)
          have hdy : dv y.toNat ≠ 16 := fun h => hd (.inr h)
          have hx16 := dv_le x.toNat
          have hy16 := dv_le y.toNat
          have hD2 := dec_more HD.out hlt1 hx hy hd
          obtain ⟨p, hp⟩ : ∃ p, dv x.toNat = p := ⟨_, rfl⟩
          obtain ⟨q, hq⟩ : ∃ q, dv y.toNat = q := ⟨_, rfl⟩
          rw [hp] at cx hx16 hdx hD2
          rw [hq] at cy hy16 hdy hD2
          have hp15 : p < 16 := by omega
          have hq15 : q < 16 := by omega
          have t1 : ((p : Int) == 16) = false := by simp; omega
          have t2 : ((q : Int) == 16) = false := by simp; omega
          have hz255 : 16 * p + q < 256 := by omega
          have hzi : (16 : Int) * (p : Int) + (q : Int) = ((16 * p + q : Nat) : Int) := by omega
          obtain ⟨r, hr⟩ : ∃ r, r = pre ++ [UInt8.ofNat (16 * p + q)] := ⟨_, rfl⟩
          rw [← hr] at hD2
          have hrl : r.length = pre.length + 1 := by rw [hr]; simp
          obtain ⟨A', c', w4, ha, ho4, hb4⟩ := run_app_new HO.out #[.int .u8 ((16 : Int) * (p : Int) + (q : Int))] [UInt8.ofNat (16 * p + q)] 1 rfl (by rw [hzi]; simp [byteCells, Nat.mod_eq_of_lt hz255]) 5 r hr (by omega) hbw.size
          have HRL := Lib.hid hrl
          have HA := Lib.hid ha
          have HO4 := Lib.hid ho4
          have HD4 := Lib.hid hD2
          clear BAD GOOD hd hdx hdy hx16 hy16 hp hq hzi hz255 hr ha ho4 hD2 hrl
          go_wp2_with (first
            | (go_at_call 27; (with_reducible refine (cx _).mono ?_); rintro e w2 ⟨rfl, rfl⟩)
            | (go_at_call 27; (with_reducible refine (cy _).mono ?_); rintro e w2 ⟨rfl, rfl⟩)
            | (at_builtin; refine wpList_append_run rfl (.tmp 34) (.tmp 39) _ rfl rfl rfl HA.out ?_))
          go_roundw
          case rel => exact ⟨k + 2, A', c', r, rfl, by go_num, by omega, by omega, by have := HRL.out; omega, HO4, HD4, hbw.trans hb4⟩
          case measure => simp [intOf]; omega
      · have hg := GOOD.out pre (dec_end HD.out (by omega))
        obtain ⟨rfl, rfl⟩ := hg.out
        have hst := own_byt HO.out c
        clear BAD GOOD hg
        go_wp2
        go_ret2
        exact ⟨rfl, hbw⟩
  · have hb := BAD.out (hexL_odd (by rw [ls_size]; exact hodd))
    obtain ⟨rfl, rfl⟩ := hb.out
    have q0 : (s.size : Int) % 2 = 1 := by omega
    clear BAD GOOD hb
    go_enter Try.func21, Try.ntmps21
    go_wp2
    go_ret2
    exact ⟨rfl, Below.refl _ _⟩
end Go.Proofs.Ytbaoaamaameddaa
