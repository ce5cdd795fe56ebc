/- The kinds' variables hold what was laid. No walk here. -/
import Derived.Test.YtmbiompmhaiehaaDoorExGa
import Derived.Test.YtmbiompmhaiehaaDoorProg
import Derived.Test.YtmbiompmhaiehaaDoorExGk
import Derived.Test.YtmbiompmhaiehaaDoorVShelf
import Derived.Test.YtmbiompmhaiehaaDoorShelf
import Derived.Shelf.Unicode.DecodeSlow
import Derived.WalkKit
import Derived.BigCall
namespace Go.Proofs.YtmbiompmhaiehaaDoor
open Go.RowKit

/-- the kinds' variables hold what was laid -/
structure KVars (w : World) : Prop where
  u : w.cell? ⟨2, 0, none⟩ = some (.int .i64 1)
  i : w.cell? ⟨0, 0, none⟩ = some (.int .i64 2)
  b : w.cell? ⟨3, 0, none⟩ = some (.int .i64 3)
  t : w.cell? ⟨1, 0, none⟩ = some (.int .i64 4)
  y : w.cell? ⟨4, 0, none⟩ = some (.int .i64 5)
theorem KVars.below {w w' : World} (h : KVars w) (hb : Below w.heap.size w w') : KVars w' := by
  have k := (Below.cells hb).1
  exact ⟨(k _ _ (World.block_lt_of_cell? w ⟨_, _, none⟩ h.u)).trans h.u, (k _ _ (World.block_lt_of_cell? w ⟨_, _, none⟩ h.i)).trans h.i, (k _ _ (World.block_lt_of_cell? w ⟨_, _, none⟩ h.b)).trans h.b, (k _ _ (World.block_lt_of_cell? w ⟨_, _, none⟩ h.t)).trans h.t, (k _ _ (World.block_lt_of_cell? w ⟨_, _, none⟩ h.y)).trans h.y⟩
end Go.Proofs.YtmbiompmhaiehaaDoor
/- Words on memory for the walks of this layer: the two tables of the library stand, and what stood stands; texts and their bytes. No walk here. -/
namespace Go.Proofs.YtmbiompmhaiehaaDoor
open Go.RowKit

/-- what stood when the call began stands, and the library's two tables are as they were laid -/
structure St (w0 w : World) : Prop where
  below : Below w0.heap.size w0 w
  tabs : Lib.Utf8Tabs 5 6 w
theorem St.first {w : World} (h : Lib.Utf8Tabs 5 6 w) : St w w := ⟨Below.refl _ _, h⟩
theorem St.then_ {w0 w w' : World} (h : St w0 w) (hb : Below w.heap.size w w') : St w0 w' := ⟨Below.both h.below hb, Utf8Tabs_below h.tabs hb⟩
theorem St.drew {w0 w : World} (h : St w0 w) : St w0 w.drew := ⟨Below.thenN h.below 1, h.tabs⟩
theorem St.newN {w0 w : World} (h : St w0 w) (n : Nat) : St w0 (w.drewN n) := ⟨Below.thenN h.below n, h.tabs⟩

/-- a text of these bytes -/
def tx (l : List UInt8) : ByteArray := ⟨l.toArray⟩
def uls (s : ByteArray) : List UInt8 := s.data.toList
theorem uls_tx (l : List UInt8) : uls (tx l) = l := rfl
theorem tx_uls (s : ByteArray) : tx (uls s) = s := by cases s; simp [tx, uls]
theorem size_uls (s : ByteArray) : (uls s).length = s.size := (Go.Lib.size_eq s).symm
theorem size_tx (l : List UInt8) : (tx l).size = l.length := by rw [← size_uls, uls_tx]
theorem uls_inj {s t : ByteArray} (h : uls s = uls t) : s = t := by rw [← tx_uls s, h, tx_uls]
theorem uls_from (s : ByteArray) (i : Nat) : uls (s.extract i s.size) = (uls s).drop i := Go.Lib.ext_list s i
theorem uls_cut (s : ByteArray) (i j : Nat) : uls (s.extract i j) = ((uls s).take j).drop i := by
  unfold uls
  rw [ByteArray.data_extract, Array.toList_extract]
  simp [List.extract, List.drop_take]
theorem uls_app (s t : ByteArray) : uls (s ++ t) = uls s ++ uls t := by
  unfold uls
  rw [ByteArray.data_append, Array.toList_append]
end Go.Proofs.YtmbiompmhaiehaaDoor
/- Words on memory for the walks of this layer: the kinds' variables hold what was laid, and what stood stands. No walk here. -/
namespace Go.Proofs.YtmbiompmhaiehaaDoor
open Go.RowKit

/-- what stood when the call began stands, the library's tables and the kinds' variables are as they were laid -/
structure KSt (w0 w : World) : Prop where
  st : St w0 w
  k : KVars w
theorem KSt.first {w : World} (h : St w w) (k : KVars w) : KSt w w := ⟨h, k⟩
theorem KSt.then_ {w0 w w' : World} (h : KSt w0 w) (hb : Below w.heap.size w w') : KSt w0 w' := ⟨h.st.then_ hb, h.k.below hb⟩
theorem KSt.drew {w0 w : World} (h : KSt w0 w) : KSt w0 w.drew := h.then_ (Below.thenN (Below.refl _ _) 1)
theorem KSt.newN {w0 w : World} (h : KSt w0 w) (n : Nat) : KSt w0 (w.drewN n) := h.then_ (Below.newN w n)
theorem KSt.self {w0 w : World} (h : KSt w0 w) : KSt w w := ⟨⟨Below.refl _ _, h.st.tabs⟩, h.k⟩
theorem KSt.below {w0 w : World} (h : KSt w0 w) : Below w0.heap.size w0 w := h.st.below
theorem KSt.new {w0 w : World} (h : KSt w0 w) (o : Obj) : KSt w0 (w.alloc o) := h.then_ ((Below.refl _ _).alloc (Nat.le_refl _) _)
/-- a contract on what only grows the memory, as one on KSt -/
theorem KSt.of {P : Program} {f : FuncId} {args : Array Value} {w0 w : World} {Q : Ending → Prop} (h : KSt w0 w) (hc : Calls P f args w fun e w' => Q e ∧ Below w.heap.size w w') :
    Calls P f args w fun e w' => Q e ∧ KSt w0 w' := hc.mono fun _ _ ⟨he, hb⟩ => ⟨he, h.then_ hb⟩
end Go.Proofs.YtmbiompmhaiehaaDoor
/- The walk of utf.Valid: every text. -/
namespace Go.Proofs.YtmbiompmhaiehaaDoor
open Go.RowKit

set_option maxRecDepth 100000 in
set_option maxHeartbeats 1000000 in
theorem valid_any {w0 w : World} (h : St w0 w) (s : ByteArray) (hs : s.size ≤ 140737488355328) :
    Calls Tryd.prog 22 #[.string s] w fun e w' => e = .returned (.bool (okL (uls s))) ∧ St w0 w' := by
  have cS := Tryd.utf8_ValidString s w (by omega) h.tabs
  rw [validD_ok] at cS
  have hcl : okL (uls s) = okL s.data.toList := rfl
  rw [← hcl] at cS
  clear hcl
  obtain ⟨N, hN⟩ : ∃ N, okL (uls s) = N := ⟨_, rfl⟩
  rw [hN] at cS ⊢
  clear hN
  go_enter Tryd.func22, Tryd.ntmps22
  go_wp2_with (go_at_call 41; refine cS.mono ?_; rintro e w' ⟨rfl, hb⟩)
  go_ret
  exact ⟨rfl, h.then_ hb⟩
end Go.Proofs.YtmbiompmhaiehaaDoor
/- The walk of kind.Valid. -/
namespace Go.Proofs.YtmbiompmhaiehaaDoor
open Go.RowKit

/-- a value's parts as the machine holds them -/
def vv (v : Val) : Value := .agg #[.int .i64 v.k, .int .u64 v.n, .string v.s]
/-- a value's number is one of 64 bits -/
def Fits (v : Val) : Prop := 0 ≤ v.n ∧ v.n ≤ 18446744073709551615

theorem str_nil (s : ByteArray) : (s.toList = []) ↔ s.size = 0 := by
  rw [Lib.toList_data, Lib.size_eq]
  exact ⟨fun h => by rw [h]; rfl, fun h => List.eq_nil_of_length_eq_zero h⟩

set_option maxRecDepth 100000 in
set_option maxHeartbeats 1000000 in
theorem kvalid_any {w0 w : World} (hk : KSt w0 w) (v : Val) (ha : Fits v) (hs : v.s.size ≤ 140737488355328) :
    Calls Tryd.prog 13 #[vv v] w fun e w' => e = .returned (.bool (okV v)) ∧ KSt w0 w' := by
  obtain ⟨k, n, s⟩ := v
  unfold vv okV
  unfold Fits at ha
  dsimp only at hs ha ⊢
  obtain ⟨n0, _⟩ := ha
  have k2 := hk.new (.cells #[.int .i64 k, .int .u64 n, .string s] 31)
  have cv := fun (W : World) (g : KSt w0 W) => KSt.of g ((valid_any g.self.st s hs).mono fun _ _ ⟨he, hb⟩ => ⟨he, hb.below⟩)
  obtain ⟨o, ho⟩ : ∃ o, okL (uls s) = o := ⟨_, rfl⟩
  have ho' : okL s.data.toList = o := ho
  rw [ho']
  simp only [ho] at cv
  clear ho ho'
  obtain ⟨hu, hi, hb, ht, hy⟩ := hk.k
  have zu := World.block_lt_of_cell? w ⟨_, _, none⟩ hu
  have zi := World.block_lt_of_cell? w ⟨_, _, none⟩ hi
  have zb := World.block_lt_of_cell? w ⟨_, _, none⟩ hb
  have zt := World.block_lt_of_cell? w ⟨_, _, none⟩ ht
  have zy := World.block_lt_of_cell? w ⟨_, _, none⟩ hy
  have hS : s.toList.isEmpty = decide (s.size = 0) := by
    by_cases h : s.size = 0
    · simp [h, (str_nil s).2 h]
    · have : ¬ s.toList = [] := fun g => h ((str_nil s).1 g)
      rw [decide_eq_false h]
      simpa using this
  obtain ⟨E, hE⟩ : ∃ E, decide (s.size = 0) = E := ⟨_, rfl⟩
  rw [hE] at hS ⊢
  have HS := Lib.hid hS
  clear hS hE
  have HK := Lib.hid hk
  clear hk
  by_cases k1 : k = 1 ∨ k = 2
  · rw [if_pos k1]
    rcases k1 with rfl | rfl
    all_goals
      go_enter Tryd.func13, Tryd.ntmps13
      go_wp2
      go_ret
      exact ⟨ret_bool HS.out, k2⟩
  rw [if_neg k1]
  have q1 : (k == 1) = false := by simpa using fun h => k1 (.inl h)
  have q2 : (k == 2) = false := by simpa using fun h => k1 (.inr h)
  clear k1
  by_cases k3 : k = 3
  · rw [if_pos k3]
    subst k3
    by_cases hn : n ≤ 1
    · go_enter Tryd.func13, Tryd.ntmps13
      go_wp2
      go_ret
      exact ⟨ret_bool (by rw [HS.out]; try simp [hn]), k2⟩
    · go_enter Tryd.func13, Tryd.ntmps13
      go_wp2
      go_ret
      exact ⟨ret_bool (by have : ¬ n ≤ 1 := by omega
                          simp [this]), k2⟩
  rw [if_neg k3]
  have q3 : (k == 3) = false := by simpa using k3
  clear k3
  by_cases k4 : k = 4
  · rw [if_pos k4]
    subst k4
    by_cases hn : n = 0
    · subst hn
      go_enter Tryd.func13, Tryd.ntmps13
      go_wp2_with (go_at_call 22; refine (cv _ k2).mono ?_; rintro e w' ⟨rfl, hst⟩)
      go_ret
      exact ⟨ret_bool (by simp), hst⟩
    · have hnb : (n == 0) = false := by simpa using hn
      go_enter Tryd.func13, Tryd.ntmps13
      go_wp2
      go_ret
      exact ⟨ret_bool (by simp), k2⟩
  rw [if_neg k4]
  have q4 : (k == 4) = false := by simpa using k4
  clear k4
  by_cases k5 : k = 5
  · rw [if_pos k5]
    subst k5
    go_enter Tryd.func13, Tryd.ntmps13
    go_wp2
    go_ret
    exact ⟨ret_bool (by by_cases h : n = 0 <;> simp [h]), k2⟩
  rw [if_neg k5]
  have q5 : (k == 5) = false := by simpa using k5
  clear k5
  go_enter Tryd.func13, Tryd.ntmps13
  go_wp2
  go_ret
  exact ⟨rfl, k2⟩
end Go.Proofs.YtmbiompmhaiehaaDoor
