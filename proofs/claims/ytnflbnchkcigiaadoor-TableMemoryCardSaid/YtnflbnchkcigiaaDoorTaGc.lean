/- Words on memory for the walks of this layer: the two tables of the library stand, and what stood stands; texts and their bytes. No walk here. -/
import Derived.Test.YtnflbnchkcigiaaDoorProg
import Derived.Test.YtnflbnchkcigiaaDoorTaGa
import Derived.Test.YtnflbnchkcigiaaDoorTaGb
import Derived.Test.YtnflbnchkcigiaaDoorVShelf
import Derived.Test.YtnflbnchkcigiaaDoorShelf
import Derived.Shelf.Unicode.DecodeSlow
import Derived.WalkKit
import Derived.BigCall
namespace Go.Proofs.YtnflbnchkcigiaaDoor
open Go.RowKit

/-- what stood when the call began stands, and the library's two tables are as they were laid -/
structure St (w0 w : World) : Prop where
  below : Below w0.heap.size w0 w
  tabs : Lib.Utf8Tabs 5 6 w
theorem St.first {w : World} (h : Lib.Utf8Tabs 5 6 w) : St w w := ⟨Below.refl _ _, h⟩
theorem St.then_ {w0 w w' : World} (h : St w0 w) (hb : Below w.heap.size w w') : St w0 w' := ⟨Below.both h.below hb, Utf8Tabs_below h.tabs hb⟩
theorem St.drew {w0 w : World} (h : St w0 w) : St w0 w.drew := ⟨Below.thenN h.below 1, h.tabs⟩
theorem St.newN {w0 w : World} (h : St w0 w) (n : Nat) : St w0 (w.drewN n) := ⟨Below.thenN h.below n, h.tabs⟩

/-- a text of these bytes -/
def tx (l : List UInt8) : ByteArray := ⟨l.toArray⟩
def uls (s : ByteArray) : List UInt8 := s.data.toList
theorem uls_tx (l : List UInt8) : uls (tx l) = l := rfl
theorem tx_uls (s : ByteArray) : tx (uls s) = s := by cases s; simp [tx, uls]
theorem size_uls (s : ByteArray) : (uls s).length = s.size := (Go.Lib.size_eq s).symm
theorem size_tx (l : List UInt8) : (tx l).size = l.length := by rw [← size_uls, uls_tx]
theorem uls_inj {s t : ByteArray} (h : uls s = uls t) : s = t := by rw [← tx_uls s, h, tx_uls]
theorem uls_from (s : ByteArray) (i : Nat) : uls (s.extract i s.size) = (uls s).drop i := Go.Lib.ext_list s i
theorem uls_cut (s : ByteArray) (i j : Nat) : uls (s.extract i j) = ((uls s).take j).drop i := by
  unfold uls
  rw [ByteArray.data_extract, Array.toList_extract]
  simp [List.extract, List.drop_take]
theorem uls_app (s t : ByteArray) : uls (s ++ t) = uls s ++ uls t := by
  unfold uls
  rw [ByteArray.data_append, Array.toList_append]
end Go.Proofs.YtnflbnchkcigiaaDoor
/- Words on memory for the walks of this layer: the kinds' variables hold what was laid, and what stood stands. No walk here. -/
namespace Go.Proofs.YtnflbnchkcigiaaDoor
open Go.RowKit

/-- what stood when the call began stands, the library's tables and the kinds' variables are as they were laid -/
structure KSt (w0 w : World) : Prop where
  st : St w0 w
  k : KVars w
theorem KSt.first {w : World} (h : St w w) (k : KVars w) : KSt w w := ⟨h, k⟩
theorem KSt.then_ {w0 w w' : World} (h : KSt w0 w) (hb : Below w.heap.size w w') : KSt w0 w' := ⟨h.st.then_ hb, h.k.below hb⟩
theorem KSt.drew {w0 w : World} (h : KSt w0 w) : KSt w0 w.drew := h.then_ (Below.thenN (Below.refl _ _) 1)
theorem KSt.newN {w0 w : World} (h : KSt w0 w) (n : Nat) : KSt w0 (w.drewN n) := h.then_ (Below.newN w n)
theorem KSt.self {w0 w : World} (h : KSt w0 w) : KSt w w := ⟨⟨Below.refl _ _, h.st.tabs⟩, h.k⟩
theorem KSt.below {w0 w : World} (h : KSt w0 w) : Below w0.heap.size w0 w := h.st.below
theorem KSt.new {w0 w : World} (h : KSt w0 w) (o : Obj) : KSt w0 (w.alloc o) := h.then_ ((Below.refl _ _).alloc (Nat.le_refl _) _)
/-- a contract on what only grows the memory, as one on KSt -/
theorem KSt.of {P : Program} {f : FuncId} {args : Array Value} {w0 w : World} {Q : Ending → Prop} (h : KSt w0 w) (hc : Calls P f args w fun e w' => Q e ∧ Below w.heap.size w w') :
    Calls P f args w fun e w' => Q e ∧ KSt w0 w' := hc.mono fun _ _ ⟨he, hb⟩ => ⟨he, h.then_ hb⟩
end Go.Proofs.YtnflbnchkcigiaaDoor
/- The walk of utf.Valid: every text. -/
namespace Go.Proofs.YtnflbnchkcigiaaDoor
open Go.RowKit

set_option maxRecDepth 100000 in
set_option maxHeartbeats 1000000 in
theorem valid_any {w0 w : World} (h : St w0 w) (s : ByteArray) (hs : s.size ≤ 140737488355328) :
    Calls Tryd.prog 43 #[.string s] w fun e w' => e = .returned (.bool (okL (uls s))) ∧ St w0 w' := by
  have cS := Tryd.utf8_ValidString s w (by omega) h.tabs
  rw [validD_ok] at cS
  have hcl : okL (uls s) = okL s.data.toList := rfl
  rw [← hcl] at cS
  clear hcl
  obtain ⟨N, hN⟩ : ∃ N, okL (uls s) = N := ⟨_, rfl⟩
  rw [hN] at cS ⊢
  clear hN
  go_enter Tryd.func43, Tryd.ntmps43
  go_wp2_with (go_at_call 58; refine cS.mono ?_; rintro e w' ⟨rfl, hb⟩)
  go_ret
  exact ⟨rfl, h.then_ hb⟩
end Go.Proofs.YtnflbnchkcigiaaDoor
/- The walk of kind.Valid. -/
namespace Go.Proofs.YtnflbnchkcigiaaDoor
open Go.RowKit

/-- a value's parts as the machine holds them -/
def vv (v : Val) : Value := .agg #[.int .i64 v.k, .int .u64 v.n, .string v.s]
/-- a value's number is one of 64 bits -/
def Fits (v : Val) : Prop := 0 ≤ v.n ∧ v.n ≤ 18446744073709551615

theorem str_nil (s : ByteArray) : (s.toList = []) ↔ s.size = 0 := by
  rw [Lib.toList_data, Lib.size_eq]
  exact ⟨fun h => by rw [h]; rfl, fun h => List.eq_nil_of_length_eq_zero h⟩

set_option maxRecDepth 100000 in
set_option maxHeartbeats 1000000 in
theorem kvalid_any {w0 w : World} (hk : KSt w0 w) (v : Val) (ha : Fits v) (hs : v.s.size ≤ 140737488355328) :
    Calls Tryd.prog 24 #[vv v] w fun e w' => e = .returned (.bool (okV v)) ∧ KSt w0 w' := by
  obtain ⟨k, n, s⟩ := v
  unfold vv okV
  unfold Fits at ha
  dsimp only at hs ha ⊢
  obtain ⟨n0, _⟩ := ha
  have k2 := hk.new (.cells #[.int .i64 k, .int .u64 n, .string s] 51)
  have cv := fun (W : World) (g : KSt w0 W) => KSt.of g ((valid_any g.self.st s hs).mono fun _ _ ⟨he, hb⟩ => ⟨he, hb.below⟩)
  obtain ⟨o, ho⟩ : ∃ o, okL (uls s) = o := ⟨_, rfl⟩
  have ho' : okL s.data.toList = o := ho
  rw [ho']
  simp only [ho] at cv
  clear ho ho'
  obtain ⟨hu, hi, hb, ht, hy⟩ := hk.k
  have zu := World.block_lt_of_cell? w ⟨_, _, none⟩ hu
  have zi := World.block_lt_of_cell? w ⟨_, _, none⟩ hi
  have zb := World.block_lt_of_cell? w ⟨_, _, none⟩ hb
  have zt := World.block_lt_of_cell? w ⟨_, _, none⟩ ht
  have zy := World.block_lt_of_cell? w ⟨_, _, none⟩ hy
  have hS : s.toList.isEmpty = decide (s.size = 0) := by
    by_cases h : s.size = 0
    · simp [h, (str_nil s).2 h]
    · have : ¬ s.toList = [] := fun g => h ((str_nil s).1 g)
      rw [decide_eq_false h]
      simpa using this
  obtain ⟨E, hE⟩ : ∃ E, decide (s.size = 0) = E := ⟨_, rfl⟩
  rw [hE] at hS ⊢
  have HS := Lib.hid hS
  clear hS hE
  have HK := Lib.hid hk
  clear hk
  by_cases k1 : k = 1 ∨ k = 2
  · rw [if_pos k1]
    rcases k1 with rfl | rfl
    all_goals
      go_enter Tryd.func24, Tryd.ntmps24
      go_wp2
      go_ret
      exact ⟨ret_bool HS.out, k2⟩
  rw [if_neg k1]
  have q1 : (k == 1) = false := by simpa using fun h => k1 (.inl h)
  have q2 : (k == 2) = false := by simpa using fun h => k1 (.inr h)
  clear k1
  by_cases k3 : k = 3
  · rw [if_pos k3]
    subst k3
    by_cases hn : n ≤ 1
    · go_enter Tryd.func24, Tryd.ntmps24
      go_wp2
      go_ret
      exact ⟨ret_bool (by rw [HS.out]; try simp [hn]), k2⟩
    · go_enter Tryd.func24, Tryd.ntmps24
      go_wp2
      go_ret
      exact ⟨ret_bool (by have : ¬ n ≤ 1 := by omega
                          simp [this]), k2⟩
  rw [if_neg k3]
  have q3 : (k == 3) = false := by simpa using k3
  clear k3
  by_cases k4 : k = 4
  · rw [if_pos k4]
    subst k4
    by_cases hn : n = 0
    · subst hn
      go_enter Tryd.func24, Tryd.ntmps24
      go_wp2_with (go_at_call 43; refine (cv _ k2).mono ?_; rintro e w' ⟨rfl, hst⟩)
      go_ret
      exact ⟨ret_bool (by simp), hst⟩
    · have hnb : (n == 0) = false := by simpa using hn
      go_enter Tryd.func24, Tryd.ntmps24
      go_wp2
      go_ret
      exact ⟨ret_bool (by simp), k2⟩
  rw [if_neg k4]
  have q4 : (k == 4) = false := by simpa using k4
  clear k4
  by_cases k5 : k = 5
  · rw [if_pos k5]
    subst k5
    go_enter Tryd.func24, Tryd.ntmps24
    go_wp2
    go_ret
    exact ⟨ret_bool (by by_cases h : n = 0 <;> simp [h]), k2⟩
  rw [if_neg k5]
  have q5 : (k == 5) = false := by simpa using k5
  clear k5
  go_enter Tryd.func24, Tryd.ntmps24
  go_wp2
  go_ret
  exact ⟨rfl, k2⟩
end Go.Proofs.YtnflbnchkcigiaaDoor
/- The walks of canStand, measure, Check, Size. -/
namespace Go.Proofs.YtnflbnchkcigiaaDoor
open Go.RowKit

theorem kval_any {w0 w : World} (h : KSt w0 w) (v : Val) (hf : Fit v) (hs : v.s.size ≤ 140737488355328) :
    Calls Tryd.prog 24 #[.agg (vvC v)] w fun e w' => e = .returned (.bool (okV v)) ∧ Below w.heap.size w w' :=
  (kvalid_any h.self v hf hs).mono fun _ _ ⟨he, hb⟩ => ⟨he, hb.below⟩

set_option maxRecDepth 100000 in
set_option maxHeartbeats 1000000 in
theorem can_any {w0 w : World} (h : KSt w0 w) (f : Fd) (last : Int) (hf : Fit f.v) (hs : f.v.s.size ≤ 140737488355328) :
    Calls Tryd.prog 42 #[.agg (ffC f), .int .i64 last] w fun e w' => e = .returned (.bool (canF f last)) ∧ Below w.heap.size w w' := by
  have cv := fun {W : World} (q : KSt w0 W) => kval_any q f.v hf hs
  obtain ⟨t, v⟩ := f
  obtain ⟨k, n, s⟩ := v
  unfold ffC canF
  unfold vvC at cv
  dsimp only at cv ⊢
  clear hf hs
  obtain ⟨V, hV⟩ : ∃ V, okV ⟨k, n, s⟩ = V := ⟨_, rfl⟩
  rw [hV] at cv ⊢
  clear hV
  have h1 := h.new (.cells #[.int .i64 t, .int .i64 k, .int .u64 n, .string s] 53)
  have hB : Below w.heap.size w (w.alloc (.cells #[.int .i64 t, .int .i64 k, .int .u64 n, .string s] 53)) := (Below.refl _ _).alloc (Nat.le_refl _) _
  have HS := Lib.hid h
  clear h
  by_cases q1 : last < t
  · by_cases q2 : t ≤ 65535
    · go_enter Tryd.func42, Tryd.ntmps42
      go_wp2_with (go_at_call 24; refine (cv h1).mono ?_; rintro e w' ⟨rfl, hb⟩)
      go_ret
      exact ⟨ret_bool (by simp [q1, q2]), Below.both hB hb⟩
    · go_enter Tryd.func42, Tryd.ntmps42
      go_wp2
      go_ret
      exact ⟨ret_bool (by have : ¬ t ≤ 65535 := by omega
                          simp [this]), hB⟩
  · go_enter Tryd.func42, Tryd.ntmps42
    go_wp2
    go_ret
    exact ⟨ret_bool (by have : ¬ last < t := by omega
                        simp [this]), hB⟩

/-- one field more -/
theorem go_on {l : List Fd} {k : Nat} {f : Fd} (hi : l[k]? = some f) (h : Is 0 (l.take k)) (hc : canF f (lastOf 0 (l.take k)) = true) (hf : Fit f.v) :
    Is 0 (l.take (k + 1)) ∧ lastOf 0 (l.take (k + 1)) = f.t ∧ (enc (l.take (k + 1))).length = (enc (l.take k)).length + (fb f).length := by
  rw [take_snoc hi]
  exact ⟨is_snoc.2 ⟨h, hc, hf⟩, last_snoc _ _ _, by rw [enc_snoc, List.length_append]⟩
theorem last_nn {l : List Fd} (h : Is 0 l) : 0 ≤ lastOf 0 l := by have := (is_last h).1; omega
theorem texts_good {l : List Fd} (hg : Good l) : texts l ≤ l.length * 140737488355328 := by
  induction l with
  | nil => simp [texts_nil]
  | cons f r ih =>
    rw [texts_cons, List.length_cons]
    have h1 := (hg f (by simp)).2
    have h2 := ih fun g h => hg g (by simp [h])
    omega
theorem enc_small {l : List Fd} (hg : Good l) (k : Nat) (h : Is 0 (l.take k)) : (enc (l.take k)).length ≤ 9223231299368386530 := by
  have h1 := enc_le (Int.le_refl 0) h (hg.take k)
  have h2 := is_few h
  have h3 := texts_good (hg.take k)
  omega
/-- what a round of a loop over fields needs -/
theorem can_key {f : Fd} {last : Int} (h : canF f last = true) (h0 : 0 ≤ last) : 0 ≤ f.t ∧ f.t ≤ 65535 ∧ 0 ≤ f.v.k ∧ f.v.k ≤ 5 := by
  obtain ⟨h1, h2, h3⟩ := can_parts h
  have := ok_kind h3
  omega
theorem pay_small {v : Val} (h : Fit v) (hs : v.s.size ≤ 140737488355328) : (pay v).length ≤ 140737488355328 := by
  unfold pay
  split
  · have := pnum_range h
    have := Go.Lib.uvarint_length64 (x := (pnum v).toNat) (by omega)
    omega
  · rw [← Lib.size_eq]; exact hs

theorem ret3 {a b c a' b' c' : Int} (h : a = a') (g : b = b') (k : c = c') : Ending.returned (.tuple #[.int .i64 a, .int .i64 b, .int .i64 c]) = .returned (.tuple #[.int .i64 a', .int .i64 b', .int .i64 c']) := by rw [h, g, k]

set_option maxRecDepth 100000 in
set_option maxHeartbeats 1000000 in
theorem measure_any {w0 w : World} (h : KSt w0 w) {A : Option Addr} {l : List Fd} (c : Nat) (hA : FRow w w.heap.size A l) (hg : Good l) (hl : l.length ≤ 140737488355328) :
    Calls Tryd.prog 39 #[.slice A l.length c] w fun e w' => e = .returned (.tuple #[.int .i64 (cat l), .int .i64 (csz l), .int .i64 (cer l)]) ∧ Below w.heap.size w w' := by
  obtain ⟨a, ha⟩ : ∃ a, cat l = a := ⟨_, rfl⟩
  obtain ⟨b, hb⟩ : ∃ b, csz l = b := ⟨_, rfl⟩
  obtain ⟨d, hd⟩ : ∃ d, cer l = d := ⟨_, rfl⟩
  rw [ha, hb, hd]
  have HR := Lib.hid (And.intro ha (And.intro hb hd))
  have HG := Lib.hid hg
  have hl0 := hl
  have HA := Lib.hid hA
  have H0 := Lib.hid h
  clear ha hb hd hg hl hA h
  go_enter Tryd.func39, Tryd.ntmps39
  go_wp2
  go_loopw [3, 5, 10] (fun sz la i wr => ∃ (k z : Nat) (m : Int), sz = .int .i64 z ∧ la = .int .i64 m ∧ i = .int .i64 k ∧ k ≤ l.length ∧ z ≤ 9223231299368386530 ∧ Below w.heap.size w wr ∧ Hid (Is 0 (l.take k)) ∧ Hid (m = lastOf 0 (l.take k)) ∧ Hid (z = (enc (l.take k)).length)) (fun _ _ i _ => l.length - (intOf i).toNat)
  case atStart => exact ⟨0, 0, 0, rfl, rfl, rfl, Nat.zero_le _, Nat.zero_le _, Below.refl _ _, by unfold Hid; rw [List.take_zero]; trivial, by unfold Hid; rfl, by unfold Hid; rfl⟩
  case round =>
    obtain ⟨k, z, m, rfl, rfl, rfl, hk, hz, hB, HI, HM, HZ⟩ := hrel
    by_cases hlt : k < l.length
    · obtain ⟨f, hf⟩ : ∃ f, l[k]? = some f := ⟨l[k], List.getElem?_eq_getElem hlt⟩
      obtain ⟨g, o, rfl, hgB, hcs⟩ := (HA.out.below hB).at_ (by omega)
      obtain ⟨c0, c1, c2, c3⟩ := hcs k f hf
      obtain ⟨hfit, hsz⟩ := HG.out.at_ hf
      clear hcs
      have hK : KSt w wr := (H0.out.self).then_ hB
      have hK1 := hK.new (.cells (ffC f) 53)
      have hB1 : Below w.heap.size w (wr.alloc (.cells (ffC f) 53)) := hB.alloc hB.size _
      have cc := can_any hK1 f m hfit hsz
      by_cases hc : canF f m = true
      · have hm0 : 0 ≤ m := by rw [HM.out]; exact last_nn HI.out
        obtain ⟨t0, t1, k0, k1⟩ := can_key hc hm0
        obtain ⟨n1, n2, n3⟩ := go_on hf HI.out (by rw [← HM.out]; exact hc) hfit
        have hsm := enc_small HG.out (k + 1) n1
        have hpy := pay_small hfit hsz
        have cs := fun {W : World} (q : KVars W) => fsize_any q f hfit t0 t1 k0 k1 hpy
        rw [hc] at cc
        rw [n3, ← HZ.out] at hsm
        rw [← HZ.out] at n3
        have HN := Lib.hid (And.intro n1 (And.intro n2 n3))
        obtain ⟨N, hN⟩ : ∃ N, (fb f).length = N := ⟨_, rfl⟩
        simp only [hN] at cs hsm HN
        clear n1 n2 n3 hc hN hfit hsz hm0 t0 t1 k0 k1 hpy hf
        obtain ⟨t, v⟩ := f
        obtain ⟨vk, vn, vs⟩ := v
        unfold ffC at cc cs hK1 hB1
        dsimp only at c0 c1 c2 c3 cc cs hK1 hB1
        go_wp2_with (go_at_call 42; refine cc.mono ?_; rintro e w1 ⟨rfl, hb1⟩; obtain ⟨hc1, _⟩ := Below.cells hb1; have hz1 : wr.heap.size < w1.heap.size := (by have := hb1.size; simp at this; omega))
        go_wp2_with (go_at_call 50; refine (cs (hK1.then_ hb1).k).mono ?_; rintro e w2 ⟨rfl, hb2⟩; obtain ⟨hc2, _⟩ := Below.cells hb2)
        go_roundw
        case rel => exact ⟨k + 1, z + N, t, by go_num, rfl, by go_num, by omega, by omega, hB1.trans ((Below.both hb1 hb2).mono hB1.size), HN.out.1, HN.out.2.1.symm, HN.out.2.2.symm⟩
        case measure => simp [intOf]; omega
      · have hc' : canF f m = false := by simpa using hc
        obtain ⟨r1, r2, r3, _⟩ := cer_bad hf HI.out (by rw [← HM.out]; exact hc')
        have HQ : Hid (a = k ∧ b = 0 ∧ d = 1) := ⟨HR.out.1.symm.trans r2, HR.out.2.1.symm.trans r3, HR.out.2.2.symm.trans r1⟩
        rw [hc'] at cc
        clear r1 r2 r3 hc hc' hfit hsz hf
        obtain ⟨t, v⟩ := f
        obtain ⟨vk, vn, vs⟩ := v
        unfold ffC at cc hK1 hB1
        dsimp only at c0 c1 c2 c3 cc hK1 hB1
        go_wp2_with (go_at_call 42; refine cc.mono ?_; rintro e w1 ⟨rfl, hb1⟩)
        go_ret3
        exact ⟨ret3 HQ.out.1.symm HQ.out.2.1.symm HQ.out.2.2.symm, hB1.trans (hb1.mono hB1.size)⟩
    · obtain rfl : k = l.length := by omega
      rw [List.take_length] at HI HM HZ
      by_cases hlong : 16777215 < z
      · obtain ⟨r1, r2, r3, _⟩ := cer_long HI.out (by rw [← HZ.out]; exact hlong)
        have HQ : Hid (a = 0 ∧ b = 0 ∧ d = 2) := ⟨HR.out.1.symm.trans r2, HR.out.2.1.symm.trans r3, HR.out.2.2.symm.trans r1⟩
        clear r1 r2 r3
        go_wp2
        go_ret3
        exact ⟨ret3 HQ.out.1.symm HQ.out.2.1.symm HQ.out.2.2.symm, hB⟩
      · obtain ⟨r1, r2, r3, _⟩ := cer_ok HI.out (by rw [← HZ.out]; omega)
        have HQ : Hid (a = 0 ∧ b = z ∧ d = 0) := ⟨HR.out.1.symm.trans r2, HR.out.2.1.symm.trans (r3.trans (by rw [← HZ.out])), HR.out.2.2.symm.trans r1⟩
        clear r1 r2 r3
        go_wp2
        go_ret3
        exact ⟨ret3 HQ.out.1.symm HQ.out.2.1.symm HQ.out.2.2.symm, hB⟩

set_option maxRecDepth 100000 in
set_option maxHeartbeats 1000000 in
theorem check_any {w0 w : World} (h : KSt w0 w) {A : Option Addr} {l : List Fd} (c : Nat) (hA : FRow w w.heap.size A l) (hg : Good l) (hl : l.length ≤ 140737488355328) :
    Calls Tryd.prog 32 #[.slice A l.length c] w fun e w' => e = .returned (.tuple #[.int .i64 (cat l), .int .i64 (cer l)]) ∧ Below w.heap.size w w' := by
  have cm := measure_any h c hA hg hl
  obtain ⟨a, ha⟩ : ∃ a, cat l = a := ⟨_, rfl⟩
  obtain ⟨b, hb⟩ : ∃ b, csz l = b := ⟨_, rfl⟩
  obtain ⟨d, hd⟩ : ∃ d, cer l = d := ⟨_, rfl⟩
  rw [ha, hb, hd] at cm
  rw [ha, hd]
  clear ha hb hd hA hg hl h
  go_enter Tryd.func32, Tryd.ntmps32
  go_wp2_with (go_at_call 39; refine cm.mono ?_; rintro e w1 ⟨rfl, hb1⟩)
  go_ret2
  exact ⟨rfl, hb1⟩
end Go.Proofs.YtnflbnchkcigiaaDoor
