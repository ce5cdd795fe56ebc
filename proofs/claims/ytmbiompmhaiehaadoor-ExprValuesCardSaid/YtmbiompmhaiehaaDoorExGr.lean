/- Plain: things as the document's own reckoning holds them. No walk here. -/
import Derived.Test.YtmbiompmhaiehaaDoorExGx
import Derived.Test.YtmbiompmhaiehaaDoorExAw
import Derived.Test.YtmbiompmhaiehaaDoorPoWhole
import Derived.Test.YtmbiompmhaiehaaDoorExGp
import Derived.Lib.AppendStr
import Derived.BigCall
import Derived.Deep.RegionHeld3
namespace Go.Proofs.YtmbiompmhaiehaaDoor
open Go.RowKit

/-- which kind of thing; its sign, its magnitude, its bytes -/
def isR : Th → Int | .num _ => 1 | .text _ => 2 | .truth _ => 3 | .bytes _ => 4
def ngR : Th → Bool | .num v => decide (v < 0) | _ => false
def mgR : Th → Int | .num v => (v.natAbs : Nat) | .truth b => if b then 1 else 0 | _ => 0
def txR : Th → ByteArray | .text s => str s | .bytes s => str s | _ => ⟨#[]⟩
/-- what an answer says of a thing or an error -/
def Says (r : Except Nat Th) (i : Int) (g : Bool) (m : Int) (s : ByteArray) (x : Int) : Prop := match r with
  | .ok t => x = 0 ∧ i = isR t ∧ g = ngR t ∧ m = mgR t ∧ s = txR t
  | .error e => x = (e : Nat) ∧ x ≠ 0
def RAt (r : Except Nat Th) (w : World) (e : Ending) (w' : World) : Prop := ∃ (i : Int) (g : Bool) (m : Int) (s : ByteArray) (x : Int), e = .returned (.tuple #[.agg #[.int .i64 i, .bool g, .int .u64 m, .string s], .int .i64 x]) ∧ Below w.heap.size w w' ∧ Says r i g m s x
theorem rp_times (s : List UInt8) (n : Nat) : rp (str s) n = str (timesL s n) := by
  unfold rp rpL timesL catL
  congr 1
  induction n with
  | zero => rfl
  | succ n ih => simp [List.replicate_succ, ls_str] at ih ⊢
theorem says_num {u v : Int} {g : Bool} {m : Int} (h : u = v) (h1 : -9223372036854775808 ≤ v) (h2 : v < 18446744073709551616) (hg : g = decide (v < 0)) (hm : m = (v.natAbs : Nat)) : Says (numE u) 1 g m ⟨#[]⟩ 0 := by
  subst h
  unfold numE
  rw [if_pos ⟨h1, h2⟩]
  exact ⟨rfl, rfl, hg, hm, rfl⟩
theorem says_big {u v : Int} {i : Int} {g : Bool} {m : Int} {s : ByteArray} (h : u = v) (h1 : v < -9223372036854775808 ∨ 18446744073709551616 ≤ v) : Says (numE u) i g m s 111 := by
  subst h
  unfold numE
  rw [if_neg (by omega)]
  exact ⟨rfl, by decide⟩
end Go.Proofs.YtmbiompmhaiehaaDoor
/- The walk of the reference: numbers by sign and magnitude (gen_rth.py). -/
namespace Go.Proofs.YtmbiompmhaiehaaDoor
open Go.RowKit

set_option maxRecDepth 100000 in
set_option maxHeartbeats 4000000 in
theorem rnum_any (w : World) (b : Bool) (M : Int) (h0 : 0 ≤ M) (h1 : M < 18446744073709551616) : Calls Tryd.prog 61 #[.bool b, .int .u64 M] w (RAt (numE (if b then -M else M)) w) := by
  have B0 := fun o => (Below.refl w.heap.size w).alloc (Nat.le_refl _) o
  cases b with
  | false =>
    have hs : Says (numE (if false then -M else M)) 1 false M ⟨#[]⟩ 0 := says_num (v := M) rfl (by omega) (by omega) (by simp; omega) (by omega)
    obtain ⟨R, hR⟩ : ∃ R, numE (if false then -M else M) = R := ⟨_, rfl⟩
    rw [hR] at hs ⊢
    have HS := Lib.hid hs
    clear hs hR h0 h1
    go_enter Tryd.func61, Tryd.ntmps61
    go_wp2
    exact bodyPost_ret (v := .tuple #[.agg #[.int .i64 1, .bool false, .int .u64 M, .string ⟨#[]⟩], .int .i64 0]) (results_cv rfl _ _ _ _ _ rfl rfl (CB.new w _ _) Tryd.underlying51 rfl (by kernel_rfl)) rfl ⟨_, _, _, _, _, rfl, (B0 _), HS.out⟩
  | true =>
    by_cases hm : 9223372036854775808 < M
    · have hs : Says (numE (if true then -M else M)) 0 false 0 ⟨#[]⟩ 111 := says_big (v := -M) rfl (by omega)
      obtain ⟨R, hR⟩ : ∃ R, numE (if true then -M else M) = R := ⟨_, rfl⟩
      rw [hR] at hs ⊢
      have HS := Lib.hid hs
      clear hs hR h0 h1
      go_enter Tryd.func61, Tryd.ntmps61
      go_wp2
      exact bodyPost_ret (v := .tuple #[.agg #[.int .i64 0, .bool false, .int .u64 0, .string ⟨#[]⟩], .int .i64 111]) (results_cv rfl _ _ _ _ _ rfl rfl (CB.new w _ _) Tryd.underlying51 rfl (by kernel_rfl)) rfl ⟨_, _, _, _, _, rfl, (B0 _), HS.out⟩
    · have hmd : decide (9223372036854775808 < M) = false := by rw [decide_eq_false_iff_not]; exact hm
      by_cases hp : 0 < M
      · have hs : Says (numE (if true then -M else M)) 1 true M ⟨#[]⟩ 0 := says_num (v := -M) rfl (by omega) (by omega) (by simp; omega) (by omega)
        obtain ⟨R, hR⟩ : ∃ R, numE (if true then -M else M) = R := ⟨_, rfl⟩
        rw [hR] at hs ⊢
        have HS := Lib.hid hs
        clear hs hR h0 h1
        go_enter Tryd.func61, Tryd.ntmps61
        go_wp2
        exact bodyPost_ret (v := .tuple #[.agg #[.int .i64 1, .bool true, .int .u64 M, .string ⟨#[]⟩], .int .i64 0]) (results_cv rfl _ _ _ _ _ rfl rfl (CB.new w _ _) Tryd.underlying51 rfl (by kernel_rfl)) rfl ⟨_, _, _, _, _, rfl, (B0 _), HS.out⟩
      · have hpd : decide (0 < M) = false := by rw [decide_eq_false_iff_not]; exact hp
        have hs : Says (numE (if true then -M else M)) 1 false M ⟨#[]⟩ 0 := says_num (v := -M) rfl (by omega) (by omega) (by simp; omega) (by omega)
        obtain ⟨R, hR⟩ : ∃ R, numE (if true then -M else M) = R := ⟨_, rfl⟩
        rw [hR] at hs ⊢
        have HS := Lib.hid hs
        clear hs hR h0 h1
        go_enter Tryd.func61, Tryd.ntmps61
        go_wp2
        exact bodyPost_ret (v := .tuple #[.agg #[.int .i64 1, .bool false, .int .u64 M, .string ⟨#[]⟩], .int .i64 0]) (results_cv rfl _ _ _ _ _ rfl rfl (CB.new w _ _) Tryd.underlying51 rfl (by kernel_rfl)) rfl ⟨_, _, _, _, _, rfl, (B0 _), HS.out⟩

set_option maxRecDepth 100000 in
set_option maxHeartbeats 4000000 in
theorem ropp_any (w : World) (v : Int) : Calls Tryd.prog 62 #[.agg #[.int .i64 1, .bool (decide (v < 0)), .int .u64 (v.natAbs : Nat), .string ⟨#[]⟩]] w fun e w' => e = .returned (.agg #[.int .i64 1, .bool (decide ((-v) < 0)), .int .u64 ((-v).natAbs : Nat), .string ⟨#[]⟩]) ∧ Below w.heap.size w w' := by
  obtain ⟨A, hA⟩ : ∃ A : Int, (v.natAbs : Int) = A := ⟨_, rfl⟩
  have hA2 : ((-v).natAbs : Int) = A := by omega
  rw [hA, hA2]
  have B0 := fun o q => ((Below.refl w.heap.size w).alloc (Nat.le_refl _) o).alloc (by simp) q
  by_cases htruefalse : v < 0
  case pos =>
    rw [show decide (v < 0) = true by simp; omega, show decide (-v < 0) = false by simp; omega]
    clear hA hA2
    go_enter Tryd.func62, Tryd.ntmps62
    go_wp2
    exact bodyPost_ret (v := .agg #[.int .i64 1, .bool false, .int .u64 A, .string ⟨#[]⟩]) (results_cb rfl _ _ (w.heap.size + 1) _ rfl (show CB ((w.alloc (.cells #[.int .i64 1, .bool false, .int .u64 A, .string ⟨#[]⟩] 51)).alloc (.cells #[.int .i64 1, .bool false, .int .u64 A, .string ⟨#[]⟩] 51)) (w.heap.size + 1) 51 #[.int .i64 1, .bool false, .int .u64 A, .string ⟨#[]⟩] from by have := CB.new (w.alloc (.cells #[.int .i64 1, .bool false, .int .u64 A, .string ⟨#[]⟩] 51)) 51 #[.int .i64 1, .bool false, .int .u64 A, .string ⟨#[]⟩]; simpa using this) Tryd.underlying51 rfl (by kernel_rfl)) rfl ⟨rfl, B0 _ _⟩
  by_cases hfalsetrue : 0 < v
  case pos =>
    have hp : 0 < A := by omega
    rw [show decide (v < 0) = false by simp; omega, show decide (-v < 0) = true by simp; omega]
    clear hA hA2
    go_enter Tryd.func62, Tryd.ntmps62
    go_wp2
    exact bodyPost_ret (v := .agg #[.int .i64 1, .bool true, .int .u64 A, .string ⟨#[]⟩]) (results_cb rfl _ _ (w.heap.size + 1) _ rfl (show CB ((w.alloc (.cells #[.int .i64 1, .bool true, .int .u64 A, .string ⟨#[]⟩] 51)).alloc (.cells #[.int .i64 1, .bool true, .int .u64 A, .string ⟨#[]⟩] 51)) (w.heap.size + 1) 51 #[.int .i64 1, .bool true, .int .u64 A, .string ⟨#[]⟩] from by have := CB.new (w.alloc (.cells #[.int .i64 1, .bool true, .int .u64 A, .string ⟨#[]⟩] 51)) 51 #[.int .i64 1, .bool true, .int .u64 A, .string ⟨#[]⟩]; simpa using this) Tryd.underlying51 rfl (by kernel_rfl)) rfl ⟨rfl, B0 _ _⟩
  have hp : decide (0 < A) = false := by rw [decide_eq_false_iff_not]; omega
  rw [show decide (v < 0) = false by simp; omega, show decide (-v < 0) = false by simp; omega]
  clear hA hA2
  go_enter Tryd.func62, Tryd.ntmps62
  go_wp2
  exact bodyPost_ret (v := .agg #[.int .i64 1, .bool false, .int .u64 A, .string ⟨#[]⟩]) (results_cb rfl _ _ (w.heap.size + 1) _ rfl (show CB ((w.alloc (.cells #[.int .i64 1, .bool false, .int .u64 A, .string ⟨#[]⟩] 51)).alloc (.cells #[.int .i64 1, .bool false, .int .u64 A, .string ⟨#[]⟩] 51)) (w.heap.size + 1) 51 #[.int .i64 1, .bool false, .int .u64 A, .string ⟨#[]⟩] from by have := CB.new (w.alloc (.cells #[.int .i64 1, .bool false, .int .u64 A, .string ⟨#[]⟩] 51)) 51 #[.int .i64 1, .bool false, .int .u64 A, .string ⟨#[]⟩]; simpa using this) Tryd.underlying51 rfl (by kernel_rfl)) rfl ⟨rfl, B0 _ _⟩
set_option maxRecDepth 100000 in
set_option maxHeartbeats 4000000 in
theorem rplus_any (w : World) (v u : Int) (hv : -18446744073709551616 < v ∧ v < 18446744073709551616) (hu : -18446744073709551616 < u ∧ u < 18446744073709551616) : Calls Tryd.prog 65 #[.agg #[.int .i64 1, .bool (decide (v < 0)), .int .u64 (v.natAbs : Nat), .string ⟨#[]⟩], .agg #[.int .i64 1, .bool (decide (u < 0)), .int .u64 (u.natAbs : Nat), .string ⟨#[]⟩]] w (RAt (numE (v + u)) w) := by
  obtain ⟨A, hA⟩ : ∃ A : Int, (v.natAbs : Int) = A := ⟨_, rfl⟩
  obtain ⟨B, hB⟩ : ∃ A : Int, (u.natAbs : Int) = A := ⟨_, rfl⟩
  rw [hA, hB]
  obtain ⟨w3, hw3⟩ : ∃ w3 : Bool → Bool → World, ∀ a b : Bool, ((w.alloc (.cells #[.int .i64 1, .bool a, .int .u64 A, .string ⟨#[]⟩] 51)).alloc (.cells #[.int .i64 1, .bool b, .int .u64 B, .string ⟨#[]⟩] 51)).alloc (.cells #[.int .i64 0, .bool false, .int .u64 0, .string ⟨#[]⟩] 51) = w3 a b := ⟨_, fun _ _ => rfl⟩
  have B3 : Hid (∀ a b, Below w.heap.size w (w3 a b) ∧ (w3 a b).heap.size = w.heap.size + 1 + 1 + 1) := fun a b => by
    rw [← hw3]
    exact ⟨(((Below.refl _ w).alloc (Nat.le_refl _) _).alloc (by simp) _).alloc (by simp; omega) _, by simp⟩
  have K3 : Hid (∀ a b, CB (w3 a b) (w.heap.size + 1 + 1) 51 #[.int .i64 0, .bool false, .int .u64 0, .string ⟨#[]⟩]) := fun a b => by
    rw [← hw3]
    have := CB.new ((w.alloc (.cells #[.int .i64 1, .bool a, .int .u64 A, .string ⟨#[]⟩] 51)).alloc (.cells #[.int .i64 1, .bool b, .int .u64 B, .string ⟨#[]⟩] 51)) 51 #[.int .i64 0, .bool false, .int .u64 0, .string ⟨#[]⟩]
    simpa using this
  have KA : Hid (∀ a b, CB (w3 a b) w.heap.size 51 #[.int .i64 1, .bool a, .int .u64 A, .string ⟨#[]⟩] ∧ CB (w3 a b) (w.heap.size + 1) 51 #[.int .i64 1, .bool b, .int .u64 B, .string ⟨#[]⟩]) := fun a b => by
    rw [← hw3]
    have h2 := CB.new (w.alloc (.cells #[.int .i64 1, .bool a, .int .u64 A, .string ⟨#[]⟩] 51)) 51 #[.int .i64 1, .bool b, .int .u64 B, .string ⟨#[]⟩]
    have h2' : CB ((w.alloc (.cells #[.int .i64 1, .bool a, .int .u64 A, .string ⟨#[]⟩] 51)).alloc (.cells #[.int .i64 1, .bool b, .int .u64 B, .string ⟨#[]⟩] 51)) (w.heap.size + 1) 51 #[.int .i64 1, .bool b, .int .u64 B, .string ⟨#[]⟩] := by simpa using h2
    exact ⟨((CB.new w 51 #[.int .i64 1, .bool a, .int .u64 A, .string ⟨#[]⟩]).below ((Below.refl _ _).alloc (Nat.le_refl _) _)).below ((Below.refl _ _).alloc (Nat.le_refl _) _), h2'.below ((Below.refl _ _).alloc (Nat.le_refl _) _)⟩
  by_cases hvs : v < 0
  · by_cases hus : u < 0
    · by_cases hov : A + B < 18446744073709551616
      case pos =>
        rw [show decide (v < 0) = true by simp; omega, show decide (u < 0) = true by simp; omega]
        have K0 := Lib.hid (K3.out true true)
        have B0 := Lib.hid (B3.out true true)
        have hww := hw3 true true
        have ca1 : (w3 true true).cell? ⟨w.heap.size, 1, none⟩ = some (.bool true) := CB.at_ (KA.out true true).1 1
        have ca2 : (w3 true true).cell? ⟨w.heap.size, 2, none⟩ = some (.int .u64 A) := CB.at_ (KA.out true true).1 2
        have cb1 : (w3 true true).cell? ⟨w.heap.size + 1, 1, none⟩ = some (.bool true) := CB.at_ (KA.out true true).2 1
        have cb2 : (w3 true true).cell? ⟨w.heap.size + 1, 2, none⟩ = some (.int .u64 B) := CB.at_ (KA.out true true).2 2
        obtain ⟨S, hS⟩ : ∃ S : Int, S = A + B := ⟨_, rfl⟩
        have hw : IntKind.u64.wrap (A + B) = S := by show (A + B) % 18446744073709551616 = _; omega
        have hlt : decide (S < A) = false := by rw [decide_eq_false_iff_not]; omega
        have hlt2 : ¬ S < A := by omega
        have hS0 : 0 ≤ S := by omega
        have hS1 : S < 18446744073709551616 := by omega
        have hsum : -S = v + u := by omega
        have HSM := Lib.hid hsum
        clear hsum hS hA hB hv hu hvs hus hov
        clear hw3 K3 B3 KA
        go_enter Tryd.func65, Tryd.ntmps65
        go_wp2_with fail
        refine (rnum_any _ true S hS0 hS1).mono ?_
        rintro e w4 ⟨i4, g4, m4, s4, x4, rfl, b4, hs4⟩
        change Says (numE (-S)) i4 g4 m4 s4 x4 at hs4
        rw [HSM.out] at hs4
        have k4 := Lib.hid (K0.out.below b4)
        have HS4 := Lib.hid hs4
        have B4 := Lib.hid (B0.out.1.trans (b4.mono B0.out.1.size))
        clear b4 hs4 HSM
        go_wp2_with (refine wpList_store_cb rfl 51 (.tmp 4) (.tmp 26) rfl (w.heap.size + 1 + 1) _ #[.int .i64 i4, .bool g4, .int .u64 m4, .string s4] rfl rfl k4.out rfl (by kernel_rfl) (by kernel_rfl) ?_; intro w9 k9 t9)
        exact bodyPost_ret (v := .tuple #[.agg #[.int .i64 i4, .bool g4, .int .u64 m4, .string s4], .int .i64 x4]) (results_cv rfl _ _ _ _ _ rfl rfl k9 Tryd.underlying51 rfl (by kernel_rfl)) rfl ⟨_, _, _, _, _, rfl, B4.out.trans (t9.below (by omega)), HS4.out⟩
      rw [show decide (v < 0) = true by simp; omega, show decide (u < 0) = true by simp; omega]
      have K0 := Lib.hid (K3.out true true)
      have B0 := Lib.hid (B3.out true true)
      have hww := hw3 true true
      have ca1 : (w3 true true).cell? ⟨w.heap.size, 1, none⟩ = some (.bool true) := CB.at_ (KA.out true true).1 1
      have ca2 : (w3 true true).cell? ⟨w.heap.size, 2, none⟩ = some (.int .u64 A) := CB.at_ (KA.out true true).1 2
      have cb1 : (w3 true true).cell? ⟨w.heap.size + 1, 1, none⟩ = some (.bool true) := CB.at_ (KA.out true true).2 1
      have cb2 : (w3 true true).cell? ⟨w.heap.size + 1, 2, none⟩ = some (.int .u64 B) := CB.at_ (KA.out true true).2 2
      obtain ⟨S, hS⟩ : ∃ S : Int, S = A + B - 18446744073709551616 := ⟨_, rfl⟩
      have hw : IntKind.u64.wrap (A + B) = S := by show (A + B) % 18446744073709551616 = _; omega
      have hlt : S < A := by omega
      have HS4 : Hid (Says (numE (v + u)) 0 false 0 ⟨#[]⟩ 111) := says_big rfl (by omega)
      clear hS hA hB hv hu hvs hus hov
      clear hw3 K3 B3 KA
      go_enter Tryd.func65, Tryd.ntmps65
      go_wp2_with (refine wpList_store_cb rfl 51 (.tmp 4) (.tmp 21) rfl (w.heap.size + 1 + 1) _ #[.int .i64 0, .bool false, .int .u64 0, .string ⟨#[]⟩] rfl rfl K0.out rfl (by kernel_rfl) (by kernel_rfl) ?_; intro w9 k9 t9)
      exact bodyPost_ret (v := .tuple #[.agg #[.int .i64 0, .bool false, .int .u64 0, .string ⟨#[]⟩], .int .i64 111]) (results_cv rfl _ _ _ _ _ rfl rfl k9 Tryd.underlying51 rfl (by kernel_rfl)) rfl ⟨_, _, _, _, _, rfl, B0.out.1.trans (t9.below (by omega)), HS4.out⟩
    · by_cases hov : B ≤ A
      case pos =>
        rw [show decide (v < 0) = true by simp; omega, show decide (u < 0) = false by simp; omega]
        have K0 := Lib.hid (K3.out true false)
        have B0 := Lib.hid (B3.out true false)
        have hww := hw3 true false
        have ca1 : (w3 true false).cell? ⟨w.heap.size, 1, none⟩ = some (.bool true) := CB.at_ (KA.out true false).1 1
        have ca2 : (w3 true false).cell? ⟨w.heap.size, 2, none⟩ = some (.int .u64 A) := CB.at_ (KA.out true false).1 2
        have cb1 : (w3 true false).cell? ⟨w.heap.size + 1, 1, none⟩ = some (.bool false) := CB.at_ (KA.out true false).2 1
        have cb2 : (w3 true false).cell? ⟨w.heap.size + 1, 2, none⟩ = some (.int .u64 B) := CB.at_ (KA.out true false).2 2
        obtain ⟨S, hS⟩ : ∃ S : Int, S = A - B := ⟨_, rfl⟩
        have hw : IntKind.u64.wrap (A - B) = S := by show (A - B) % 18446744073709551616 = _; omega
        have hge : B ≤ A := by omega
        have hS0 : 0 ≤ S := by omega
        have hS1 : S < 18446744073709551616 := by omega
        have hsum : -S = v + u := by omega
        have HSM := Lib.hid hsum
        clear hsum hS hA hB hv hu hvs hus hov
        clear hw3 K3 B3 KA
        go_enter Tryd.func65, Tryd.ntmps65
        go_wp2_with fail
        refine (rnum_any _ true S hS0 hS1).mono ?_
        rintro e w4 ⟨i4, g4, m4, s4, x4, rfl, b4, hs4⟩
        change Says (numE (-S)) i4 g4 m4 s4 x4 at hs4
        rw [HSM.out] at hs4
        have k4 := Lib.hid (K0.out.below b4)
        have HS4 := Lib.hid hs4
        have B4 := Lib.hid (B0.out.1.trans (b4.mono B0.out.1.size))
        clear b4 hs4 HSM
        go_wp2_with (refine wpList_store_cb rfl 51 (.tmp 4) (.tmp 41) rfl (w.heap.size + 1 + 1) _ #[.int .i64 i4, .bool g4, .int .u64 m4, .string s4] rfl rfl k4.out rfl (by kernel_rfl) (by kernel_rfl) ?_; intro w9 k9 t9)
        exact bodyPost_ret (v := .tuple #[.agg #[.int .i64 i4, .bool g4, .int .u64 m4, .string s4], .int .i64 x4]) (results_cv rfl _ _ _ _ _ rfl rfl k9 Tryd.underlying51 rfl (by kernel_rfl)) rfl ⟨_, _, _, _, _, rfl, B4.out.trans (t9.below (by omega)), HS4.out⟩
      rw [show decide (v < 0) = true by simp; omega, show decide (u < 0) = false by simp; omega]
      have K0 := Lib.hid (K3.out true false)
      have B0 := Lib.hid (B3.out true false)
      have hww := hw3 true false
      have ca1 : (w3 true false).cell? ⟨w.heap.size, 1, none⟩ = some (.bool true) := CB.at_ (KA.out true false).1 1
      have ca2 : (w3 true false).cell? ⟨w.heap.size, 2, none⟩ = some (.int .u64 A) := CB.at_ (KA.out true false).1 2
      have cb1 : (w3 true false).cell? ⟨w.heap.size + 1, 1, none⟩ = some (.bool false) := CB.at_ (KA.out true false).2 1
      have cb2 : (w3 true false).cell? ⟨w.heap.size + 1, 2, none⟩ = some (.int .u64 B) := CB.at_ (KA.out true false).2 2
      obtain ⟨S, hS⟩ : ∃ S : Int, S = B - A := ⟨_, rfl⟩
      have hw : IntKind.u64.wrap (B - A) = S := by show (B - A) % 18446744073709551616 = _; omega
      have hge : ¬ B ≤ A := by omega
      have hged : decide (B ≤ A) = false := by rw [decide_eq_false_iff_not]; exact hge
      have hS0 : 0 ≤ S := by omega
      have hS1 : S < 18446744073709551616 := by omega
      have hsum : S = v + u := by omega
      have HSM := Lib.hid hsum
      clear hsum hS hA hB hv hu hvs hus hov
      clear hw3 K3 B3 KA
      go_enter Tryd.func65, Tryd.ntmps65
      go_wp2_with fail
      refine (rnum_any _ false S hS0 hS1).mono ?_
      rintro e w4 ⟨i4, g4, m4, s4, x4, rfl, b4, hs4⟩
      change Says (numE (S)) i4 g4 m4 s4 x4 at hs4
      rw [HSM.out] at hs4
      have k4 := Lib.hid (K0.out.below b4)
      have HS4 := Lib.hid hs4
      have B4 := Lib.hid (B0.out.1.trans (b4.mono B0.out.1.size))
      clear b4 hs4 HSM
      go_wp2_with (refine wpList_store_cb rfl 51 (.tmp 4) (.tmp 51) rfl (w.heap.size + 1 + 1) _ #[.int .i64 i4, .bool g4, .int .u64 m4, .string s4] rfl rfl k4.out rfl (by kernel_rfl) (by kernel_rfl) ?_; intro w9 k9 t9)
      exact bodyPost_ret (v := .tuple #[.agg #[.int .i64 i4, .bool g4, .int .u64 m4, .string s4], .int .i64 x4]) (results_cv rfl _ _ _ _ _ rfl rfl k9 Tryd.underlying51 rfl (by kernel_rfl)) rfl ⟨_, _, _, _, _, rfl, B4.out.trans (t9.below (by omega)), HS4.out⟩
  · by_cases hus : u < 0
    · by_cases hov : B ≤ A
      case pos =>
        rw [show decide (v < 0) = false by simp; omega, show decide (u < 0) = true by simp; omega]
        have K0 := Lib.hid (K3.out false true)
        have B0 := Lib.hid (B3.out false true)
        have hww := hw3 false true
        have ca1 : (w3 false true).cell? ⟨w.heap.size, 1, none⟩ = some (.bool false) := CB.at_ (KA.out false true).1 1
        have ca2 : (w3 false true).cell? ⟨w.heap.size, 2, none⟩ = some (.int .u64 A) := CB.at_ (KA.out false true).1 2
        have cb1 : (w3 false true).cell? ⟨w.heap.size + 1, 1, none⟩ = some (.bool true) := CB.at_ (KA.out false true).2 1
        have cb2 : (w3 false true).cell? ⟨w.heap.size + 1, 2, none⟩ = some (.int .u64 B) := CB.at_ (KA.out false true).2 2
        obtain ⟨S, hS⟩ : ∃ S : Int, S = A - B := ⟨_, rfl⟩
        have hw : IntKind.u64.wrap (A - B) = S := by show (A - B) % 18446744073709551616 = _; omega
        have hge : B ≤ A := by omega
        have hS0 : 0 ≤ S := by omega
        have hS1 : S < 18446744073709551616 := by omega
        have hsum : S = v + u := by omega
        have HSM := Lib.hid hsum
        clear hsum hS hA hB hv hu hvs hus hov
        clear hw3 K3 B3 KA
        go_enter Tryd.func65, Tryd.ntmps65
        go_wp2_with fail
        refine (rnum_any _ false S hS0 hS1).mono ?_
        rintro e w4 ⟨i4, g4, m4, s4, x4, rfl, b4, hs4⟩
        change Says (numE (S)) i4 g4 m4 s4 x4 at hs4
        rw [HSM.out] at hs4
        have k4 := Lib.hid (K0.out.below b4)
        have HS4 := Lib.hid hs4
        have B4 := Lib.hid (B0.out.1.trans (b4.mono B0.out.1.size))
        clear b4 hs4 HSM
        go_wp2_with (refine wpList_store_cb rfl 51 (.tmp 4) (.tmp 41) rfl (w.heap.size + 1 + 1) _ #[.int .i64 i4, .bool g4, .int .u64 m4, .string s4] rfl rfl k4.out rfl (by kernel_rfl) (by kernel_rfl) ?_; intro w9 k9 t9)
        exact bodyPost_ret (v := .tuple #[.agg #[.int .i64 i4, .bool g4, .int .u64 m4, .string s4], .int .i64 x4]) (results_cv rfl _ _ _ _ _ rfl rfl k9 Tryd.underlying51 rfl (by kernel_rfl)) rfl ⟨_, _, _, _, _, rfl, B4.out.trans (t9.below (by omega)), HS4.out⟩
      rw [show decide (v < 0) = false by simp; omega, show decide (u < 0) = true by simp; omega]
      have K0 := Lib.hid (K3.out false true)
      have B0 := Lib.hid (B3.out false true)
      have hww := hw3 false true
      have ca1 : (w3 false true).cell? ⟨w.heap.size, 1, none⟩ = some (.bool false) := CB.at_ (KA.out false true).1 1
      have ca2 : (w3 false true).cell? ⟨w.heap.size, 2, none⟩ = some (.int .u64 A) := CB.at_ (KA.out false true).1 2
      have cb1 : (w3 false true).cell? ⟨w.heap.size + 1, 1, none⟩ = some (.bool true) := CB.at_ (KA.out false true).2 1
      have cb2 : (w3 false true).cell? ⟨w.heap.size + 1, 2, none⟩ = some (.int .u64 B) := CB.at_ (KA.out false true).2 2
      obtain ⟨S, hS⟩ : ∃ S : Int, S = B - A := ⟨_, rfl⟩
      have hw : IntKind.u64.wrap (B - A) = S := by show (B - A) % 18446744073709551616 = _; omega
      have hge : ¬ B ≤ A := by omega
      have hged : decide (B ≤ A) = false := by rw [decide_eq_false_iff_not]; exact hge
      have hS0 : 0 ≤ S := by omega
      have hS1 : S < 18446744073709551616 := by omega
      have hsum : -S = v + u := by omega
      have HSM := Lib.hid hsum
      clear hsum hS hA hB hv hu hvs hus hov
      clear hw3 K3 B3 KA
      go_enter Tryd.func65, Tryd.ntmps65
      go_wp2_with fail
      refine (rnum_any _ true S hS0 hS1).mono ?_
      rintro e w4 ⟨i4, g4, m4, s4, x4, rfl, b4, hs4⟩
      change Says (numE (-S)) i4 g4 m4 s4 x4 at hs4
      rw [HSM.out] at hs4
      have k4 := Lib.hid (K0.out.below b4)
      have HS4 := Lib.hid hs4
      have B4 := Lib.hid (B0.out.1.trans (b4.mono B0.out.1.size))
      clear b4 hs4 HSM
      go_wp2_with (refine wpList_store_cb rfl 51 (.tmp 4) (.tmp 51) rfl (w.heap.size + 1 + 1) _ #[.int .i64 i4, .bool g4, .int .u64 m4, .string s4] rfl rfl k4.out rfl (by kernel_rfl) (by kernel_rfl) ?_; intro w9 k9 t9)
      exact bodyPost_ret (v := .tuple #[.agg #[.int .i64 i4, .bool g4, .int .u64 m4, .string s4], .int .i64 x4]) (results_cv rfl _ _ _ _ _ rfl rfl k9 Tryd.underlying51 rfl (by kernel_rfl)) rfl ⟨_, _, _, _, _, rfl, B4.out.trans (t9.below (by omega)), HS4.out⟩
    · by_cases hov : A + B < 18446744073709551616
      case pos =>
        rw [show decide (v < 0) = false by simp; omega, show decide (u < 0) = false by simp; omega]
        have K0 := Lib.hid (K3.out false false)
        have B0 := Lib.hid (B3.out false false)
        have hww := hw3 false false
        have ca1 : (w3 false false).cell? ⟨w.heap.size, 1, none⟩ = some (.bool false) := CB.at_ (KA.out false false).1 1
        have ca2 : (w3 false false).cell? ⟨w.heap.size, 2, none⟩ = some (.int .u64 A) := CB.at_ (KA.out false false).1 2
        have cb1 : (w3 false false).cell? ⟨w.heap.size + 1, 1, none⟩ = some (.bool false) := CB.at_ (KA.out false false).2 1
        have cb2 : (w3 false false).cell? ⟨w.heap.size + 1, 2, none⟩ = some (.int .u64 B) := CB.at_ (KA.out false false).2 2
        obtain ⟨S, hS⟩ : ∃ S : Int, S = A + B := ⟨_, rfl⟩
        have hw : IntKind.u64.wrap (A + B) = S := by show (A + B) % 18446744073709551616 = _; omega
        have hlt : decide (S < A) = false := by rw [decide_eq_false_iff_not]; omega
        have hlt2 : ¬ S < A := by omega
        have hS0 : 0 ≤ S := by omega
        have hS1 : S < 18446744073709551616 := by omega
        have hsum : S = v + u := by omega
        have HSM := Lib.hid hsum
        clear hsum hS hA hB hv hu hvs hus hov
        clear hw3 K3 B3 KA
        go_enter Tryd.func65, Tryd.ntmps65
        go_wp2_with fail
        refine (rnum_any _ false S hS0 hS1).mono ?_
        rintro e w4 ⟨i4, g4, m4, s4, x4, rfl, b4, hs4⟩
        change Says (numE (S)) i4 g4 m4 s4 x4 at hs4
        rw [HSM.out] at hs4
        have k4 := Lib.hid (K0.out.below b4)
        have HS4 := Lib.hid hs4
        have B4 := Lib.hid (B0.out.1.trans (b4.mono B0.out.1.size))
        clear b4 hs4 HSM
        go_wp2_with (refine wpList_store_cb rfl 51 (.tmp 4) (.tmp 26) rfl (w.heap.size + 1 + 1) _ #[.int .i64 i4, .bool g4, .int .u64 m4, .string s4] rfl rfl k4.out rfl (by kernel_rfl) (by kernel_rfl) ?_; intro w9 k9 t9)
        exact bodyPost_ret (v := .tuple #[.agg #[.int .i64 i4, .bool g4, .int .u64 m4, .string s4], .int .i64 x4]) (results_cv rfl _ _ _ _ _ rfl rfl k9 Tryd.underlying51 rfl (by kernel_rfl)) rfl ⟨_, _, _, _, _, rfl, B4.out.trans (t9.below (by omega)), HS4.out⟩
      rw [show decide (v < 0) = false by simp; omega, show decide (u < 0) = false by simp; omega]
      have K0 := Lib.hid (K3.out false false)
      have B0 := Lib.hid (B3.out false false)
      have hww := hw3 false false
      have ca1 : (w3 false false).cell? ⟨w.heap.size, 1, none⟩ = some (.bool false) := CB.at_ (KA.out false false).1 1
      have ca2 : (w3 false false).cell? ⟨w.heap.size, 2, none⟩ = some (.int .u64 A) := CB.at_ (KA.out false false).1 2
      have cb1 : (w3 false false).cell? ⟨w.heap.size + 1, 1, none⟩ = some (.bool false) := CB.at_ (KA.out false false).2 1
      have cb2 : (w3 false false).cell? ⟨w.heap.size + 1, 2, none⟩ = some (.int .u64 B) := CB.at_ (KA.out false false).2 2
      obtain ⟨S, hS⟩ : ∃ S : Int, S = A + B - 18446744073709551616 := ⟨_, rfl⟩
      have hw : IntKind.u64.wrap (A + B) = S := by show (A + B) % 18446744073709551616 = _; omega
      have hlt : S < A := by omega
      have HS4 : Hid (Says (numE (v + u)) 0 false 0 ⟨#[]⟩ 111) := says_big rfl (by omega)
      clear hS hA hB hv hu hvs hus hov
      clear hw3 K3 B3 KA
      go_enter Tryd.func65, Tryd.ntmps65
      go_wp2_with (refine wpList_store_cb rfl 51 (.tmp 4) (.tmp 21) rfl (w.heap.size + 1 + 1) _ #[.int .i64 0, .bool false, .int .u64 0, .string ⟨#[]⟩] rfl rfl K0.out rfl (by kernel_rfl) (by kernel_rfl) ?_; intro w9 k9 t9)
      exact bodyPost_ret (v := .tuple #[.agg #[.int .i64 0, .bool false, .int .u64 0, .string ⟨#[]⟩], .int .i64 111]) (results_cv rfl _ _ _ _ _ rfl rfl k9 Tryd.underlying51 rfl (by kernel_rfl)) rfl ⟨_, _, _, _, _, rfl, B0.out.1.trans (t9.below (by omega)), HS4.out⟩
theorem tdiv_over {Q P A B : Int} (hA : 0 < A) (hQ : A * B = Q) (hP : 0 ≤ P) (hPQ : P < Q) : P.tdiv A ≠ B := by
  intro h
  rw [Int.tdiv_eq_ediv_of_nonneg hP] at h
  have h1 := Int.ediv_mul_le P (show A ≠ 0 by omega)
  rw [h, Int.mul_comm, hQ] at h1
  omega
theorem tdiv_fit {Q A B : Int} (hA : 0 < A) (hQ : A * B = Q) : Q.tdiv A = B := by
  subst hQ
  exact Int.mul_tdiv_cancel_left B (by omega)
set_option maxRecDepth 100000 in
set_option maxHeartbeats 8000000 in
theorem rtimes_any (w : World) (v u : Int) (hv : -18446744073709551616 < v ∧ v < 18446744073709551616) (hu : -18446744073709551616 < u ∧ u < 18446744073709551616) : Calls Tryd.prog 66 #[.agg #[.int .i64 1, .bool (decide (v < 0)), .int .u64 (v.natAbs : Nat), .string ⟨#[]⟩], .agg #[.int .i64 1, .bool (decide (u < 0)), .int .u64 (u.natAbs : Nat), .string ⟨#[]⟩]] w (RAt (numE (v * u)) w) := by
  obtain ⟨A, hA⟩ : ∃ A : Int, (v.natAbs : Int) = A := ⟨_, rfl⟩
  obtain ⟨B, hB⟩ : ∃ A : Int, (u.natAbs : Int) = A := ⟨_, rfl⟩
  rw [hA, hB]
  obtain ⟨w3, hw3⟩ : ∃ w3 : Bool → Bool → World, ∀ a b : Bool, ((w.alloc (.cells #[.int .i64 1, .bool a, .int .u64 A, .string ⟨#[]⟩] 51)).alloc (.cells #[.int .i64 1, .bool b, .int .u64 B, .string ⟨#[]⟩] 51)).alloc (.cells #[.int .i64 0, .bool false, .int .u64 0, .string ⟨#[]⟩] 51) = w3 a b := ⟨_, fun _ _ => rfl⟩
  have B3 : Hid (∀ a b, Below w.heap.size w (w3 a b) ∧ (w3 a b).heap.size = w.heap.size + 1 + 1 + 1) := fun a b => by
    rw [← hw3]
    exact ⟨(((Below.refl _ w).alloc (Nat.le_refl _) _).alloc (by simp) _).alloc (by simp; omega) _, by simp⟩
  have K3 : Hid (∀ a b, CB (w3 a b) (w.heap.size + 1 + 1) 51 #[.int .i64 0, .bool false, .int .u64 0, .string ⟨#[]⟩]) := fun a b => by
    rw [← hw3]
    have := CB.new ((w.alloc (.cells #[.int .i64 1, .bool a, .int .u64 A, .string ⟨#[]⟩] 51)).alloc (.cells #[.int .i64 1, .bool b, .int .u64 B, .string ⟨#[]⟩] 51)) 51 #[.int .i64 0, .bool false, .int .u64 0, .string ⟨#[]⟩]
    simpa using this
  have KA : Hid (∀ a b, CB (w3 a b) w.heap.size 51 #[.int .i64 1, .bool a, .int .u64 A, .string ⟨#[]⟩] ∧ CB (w3 a b) (w.heap.size + 1) 51 #[.int .i64 1, .bool b, .int .u64 B, .string ⟨#[]⟩]) := fun a b => by
    rw [← hw3]
    have h2 := CB.new (w.alloc (.cells #[.int .i64 1, .bool a, .int .u64 A, .string ⟨#[]⟩] 51)) 51 #[.int .i64 1, .bool b, .int .u64 B, .string ⟨#[]⟩]
    have h2' : CB ((w.alloc (.cells #[.int .i64 1, .bool a, .int .u64 A, .string ⟨#[]⟩] 51)).alloc (.cells #[.int .i64 1, .bool b, .int .u64 B, .string ⟨#[]⟩] 51)) (w.heap.size + 1) 51 #[.int .i64 1, .bool b, .int .u64 B, .string ⟨#[]⟩] := by simpa using h2
    exact ⟨((CB.new w 51 #[.int .i64 1, .bool a, .int .u64 A, .string ⟨#[]⟩]).below ((Below.refl _ _).alloc (Nat.le_refl _) _)).below ((Below.refl _ _).alloc (Nat.le_refl _) _), h2'.below ((Below.refl _ _).alloc (Nat.le_refl _) _)⟩
  by_cases hvs : v < 0
  · by_cases hus : u < 0
    · by_cases hz1 : A = 0
      case pos =>
        rw [show decide (v < 0) = true by simp; omega, show decide (u < 0) = true by simp; omega]
        have K0 := Lib.hid (K3.out true true)
        have B0 := Lib.hid (B3.out true true)
        have hww := hw3 true true
        have ca1 : (w3 true true).cell? ⟨w.heap.size, 1, none⟩ = some (.bool true) := CB.at_ (KA.out true true).1 1
        have ca2 : (w3 true true).cell? ⟨w.heap.size, 2, none⟩ = some (.int .u64 A) := CB.at_ (KA.out true true).1 2
        have cb1 : (w3 true true).cell? ⟨w.heap.size + 1, 1, none⟩ = some (.bool true) := CB.at_ (KA.out true true).2 1
        have cb2 : (w3 true true).cell? ⟨w.heap.size + 1, 2, none⟩ = some (.int .u64 B) := CB.at_ (KA.out true true).2 2
        have hva : v = -A := by omega
        have hub : u = -B := by omega
        have hvu : v * u = (A * B) := by rw [hva, hub, Int.neg_mul_neg]
        have za : (A == 0) = true := by rw [beq_iff_eq]; omega
        have hz : v * u = 0 := by rw [hvu, show A = 0 by omega]; simp
        have HSM : Hid ((0 : Int) = v * u) := hz.symm
        clear hz hvu hva hub hA hB hv hu hvs hus hz1
        clear hw3 K3 B3 KA
        go_enter Tryd.func66, Tryd.ntmps66
        go_wp2_with fail
        refine (rnum_any _ false 0 (by decide) (by decide)).mono ?_
        rintro e w4 ⟨i4, g4, m4, s4, x4, rfl, b4, hs4⟩
        change Says (numE (0)) i4 g4 m4 s4 x4 at hs4
        rw [HSM.out] at hs4
        have k4 := Lib.hid (K0.out.below b4)
        have HS4 := Lib.hid hs4
        have B4 := Lib.hid (B0.out.1.trans (b4.mono B0.out.1.size))
        clear b4 hs4 HSM
        go_wp2_with (refine wpList_store_cb rfl 51 (.tmp 4) (.tmp 16) rfl (w.heap.size + 1 + 1) _ #[.int .i64 i4, .bool g4, .int .u64 m4, .string s4] rfl rfl k4.out rfl (by kernel_rfl) (by kernel_rfl) ?_; intro w9 k9 t9)
        exact bodyPost_ret (v := .tuple #[.agg #[.int .i64 i4, .bool g4, .int .u64 m4, .string s4], .int .i64 x4]) (results_cv rfl _ _ _ _ _ rfl rfl k9 Tryd.underlying51 rfl (by kernel_rfl)) rfl ⟨_, _, _, _, _, rfl, B4.out.trans (t9.below (by omega)), HS4.out⟩
      by_cases hz2 : B = 0
      case pos =>
        rw [show decide (v < 0) = true by simp; omega, show decide (u < 0) = true by simp; omega]
        have K0 := Lib.hid (K3.out true true)
        have B0 := Lib.hid (B3.out true true)
        have hww := hw3 true true
        have ca1 : (w3 true true).cell? ⟨w.heap.size, 1, none⟩ = some (.bool true) := CB.at_ (KA.out true true).1 1
        have ca2 : (w3 true true).cell? ⟨w.heap.size, 2, none⟩ = some (.int .u64 A) := CB.at_ (KA.out true true).1 2
        have cb1 : (w3 true true).cell? ⟨w.heap.size + 1, 1, none⟩ = some (.bool true) := CB.at_ (KA.out true true).2 1
        have cb2 : (w3 true true).cell? ⟨w.heap.size + 1, 2, none⟩ = some (.int .u64 B) := CB.at_ (KA.out true true).2 2
        have hva : v = -A := by omega
        have hub : u = -B := by omega
        have hvu : v * u = (A * B) := by rw [hva, hub, Int.neg_mul_neg]
        have za : (A == 0) = false := by rw [beq_eq_false_iff_ne]; omega
        have zb : (B == 0) = true := by rw [beq_iff_eq]; omega
        have hz : v * u = 0 := by rw [hvu, show B = 0 by omega]; simp
        have HSM : Hid ((0 : Int) = v * u) := hz.symm
        clear hz hvu hva hub hA hB hv hu hvs hus hz1 hz2
        clear hw3 K3 B3 KA
        go_enter Tryd.func66, Tryd.ntmps66
        go_wp2_with fail
        refine (rnum_any _ false 0 (by decide) (by decide)).mono ?_
        rintro e w4 ⟨i4, g4, m4, s4, x4, rfl, b4, hs4⟩
        change Says (numE (0)) i4 g4 m4 s4 x4 at hs4
        rw [HSM.out] at hs4
        have k4 := Lib.hid (K0.out.below b4)
        have HS4 := Lib.hid hs4
        have B4 := Lib.hid (B0.out.1.trans (b4.mono B0.out.1.size))
        clear b4 hs4 HSM
        go_wp2_with (refine wpList_store_cb rfl 51 (.tmp 4) (.tmp 16) rfl (w.heap.size + 1 + 1) _ #[.int .i64 i4, .bool g4, .int .u64 m4, .string s4] rfl rfl k4.out rfl (by kernel_rfl) (by kernel_rfl) ?_; intro w9 k9 t9)
        exact bodyPost_ret (v := .tuple #[.agg #[.int .i64 i4, .bool g4, .int .u64 m4, .string s4], .int .i64 x4]) (results_cv rfl _ _ _ _ _ rfl rfl k9 Tryd.underlying51 rfl (by kernel_rfl)) rfl ⟨_, _, _, _, _, rfl, B4.out.trans (t9.below (by omega)), HS4.out⟩
      rw [show decide (v < 0) = true by simp; omega, show decide (u < 0) = true by simp; omega]
      have K0 := Lib.hid (K3.out true true)
      have B0 := Lib.hid (B3.out true true)
      have hww := hw3 true true
      have ca1 : (w3 true true).cell? ⟨w.heap.size, 1, none⟩ = some (.bool true) := CB.at_ (KA.out true true).1 1
      have ca2 : (w3 true true).cell? ⟨w.heap.size, 2, none⟩ = some (.int .u64 A) := CB.at_ (KA.out true true).1 2
      have cb1 : (w3 true true).cell? ⟨w.heap.size + 1, 1, none⟩ = some (.bool true) := CB.at_ (KA.out true true).2 1
      have cb2 : (w3 true true).cell? ⟨w.heap.size + 1, 2, none⟩ = some (.int .u64 B) := CB.at_ (KA.out true true).2 2
      have hva : v = -A := by omega
      have hub : u = -B := by omega
      have hvu : v * u = (A * B) := by rw [hva, hub, Int.neg_mul_neg]
      have za : (A == 0) = false := by rw [beq_eq_false_iff_ne]; omega
      have zb : (B == 0) = false := by rw [beq_eq_false_iff_ne]; omega
      have zn : A ≠ 0 := hz1
      obtain ⟨Q, hQ⟩ : ∃ Q : Int, A * B = Q := ⟨_, rfl⟩
      have hQ0 : 0 ≤ Q := by rw [← hQ]; exact Int.mul_nonneg (by omega) (by omega)
      rw [hQ] at hvu
      by_cases hfit : Q < 18446744073709551616
      case pos =>
        have hw : IntKind.u64.wrap (A * B) = Q := by rw [hQ]; show Q % 18446744073709551616 = _; omega
        have hq2 : Q.tdiv A = B := tdiv_fit (by omega) hQ
        have hq1 : IntKind.u64.wrap B = B := by show B % 18446744073709551616 = _; omega
        have hq3 : (B != B) = false := by simp
        have HSM : Hid (Q = v * u) := hvu.symm
        clear hvu hva hub hA hB hv hu hvs hus hz1 hz2 hQ
        clear hw3 K3 B3 KA
        go_enter Tryd.func66, Tryd.ntmps66
        go_wp2_with fail
        go_quiet (fail)
        have bq := Below.newN (w3 true true) nq
        have K0 := Lib.hid (K0.out.below bq)
        have B0 : Hid (Below w.heap.size w ((w3 true true).drewN nq) ∧ True) := ⟨B0.out.1.trans (bq.mono B0.out.1.size), trivial⟩
        clear bq
        go_wp2_with fail
        refine (rnum_any _ false Q hQ0 hfit).mono ?_
        rintro e w4 ⟨i4, g4, m4, s4, x4, rfl, b4, hs4⟩
        change Says (numE (Q)) i4 g4 m4 s4 x4 at hs4
        rw [HSM.out] at hs4
        have k4 := Lib.hid (K0.out.below b4)
        have HS4 := Lib.hid hs4
        have B4 := Lib.hid (B0.out.1.trans (b4.mono B0.out.1.size))
        clear b4 hs4 HSM
        go_wp2_with (refine wpList_store_cb rfl 51 (.tmp 4) (.tmp 38) rfl (w.heap.size + 1 + 1) _ #[.int .i64 i4, .bool g4, .int .u64 m4, .string s4] rfl rfl k4.out rfl (by kernel_rfl) (by kernel_rfl) ?_; intro w9 k9 t9)
        exact bodyPost_ret (v := .tuple #[.agg #[.int .i64 i4, .bool g4, .int .u64 m4, .string s4], .int .i64 x4]) (results_cv rfl _ _ _ _ _ rfl rfl k9 Tryd.underlying51 rfl (by kernel_rfl)) rfl ⟨_, _, _, _, _, rfl, B4.out.trans (t9.below (by omega)), HS4.out⟩
      obtain ⟨P, hP⟩ : ∃ P : Int, Q % 18446744073709551616 = P := ⟨_, rfl⟩
      have hP0 : 0 ≤ P := by omega
      have hP1 : P < 18446744073709551616 := by omega
      have hw : IntKind.u64.wrap (A * B) = P := by rw [hQ]; exact hP
      obtain ⟨D, hD⟩ : ∃ D : Int, P.tdiv A = D := ⟨_, rfl⟩
      have hne : P.tdiv A ≠ B := tdiv_over (by omega) hQ hP0 (by omega)
      rw [hD] at hne
      have hD0 : 0 ≤ D := by rw [← hD]; exact Int.tdiv_nonneg hP0 (by omega)
      have hD1 : D < 18446744073709551616 := by
        have h1 := Int.ediv_le_self A hP0
        rw [← hD, Int.tdiv_eq_ediv_of_nonneg hP0]
        omega
      have hq1 : IntKind.u64.wrap D = D := by show D % 18446744073709551616 = _; omega
      have hq3 : (D != B) = true := by rw [bne_iff_ne]; exact hne
      have HS4 : Hid (Says (numE (v * u)) 0 false 0 ⟨#[]⟩ 111) := says_big hvu (by omega)
      clear hvu hva hub hA hB hv hu hvs hus hz1 hz2 hQ hP hne
      clear hw3 K3 B3 KA
      go_enter Tryd.func66, Tryd.ntmps66
      go_wp2_with fail
      go_quiet (fail)
      have bq := Below.newN (w3 true true) nq
      have K0 := Lib.hid (K0.out.below bq)
      have B0 : Hid (Below w.heap.size w ((w3 true true).drewN nq) ∧ True) := ⟨B0.out.1.trans (bq.mono B0.out.1.size), trivial⟩
      clear bq
      go_wp2_with (refine wpList_store_cb rfl 51 (.tmp 4) (.tmp 30) rfl (w.heap.size + 1 + 1) _ #[.int .i64 0, .bool false, .int .u64 0, .string ⟨#[]⟩] rfl rfl K0.out rfl (by kernel_rfl) (by kernel_rfl) ?_; intro w9 k9 t9)
      exact bodyPost_ret (v := .tuple #[.agg #[.int .i64 0, .bool false, .int .u64 0, .string ⟨#[]⟩], .int .i64 111]) (results_cv rfl _ _ _ _ _ rfl rfl k9 Tryd.underlying51 rfl (by kernel_rfl)) rfl ⟨_, _, _, _, _, rfl, B0.out.1.trans (t9.below (by omega)), HS4.out⟩
    · by_cases hz1 : A = 0
      case pos =>
        rw [show decide (v < 0) = true by simp; omega, show decide (u < 0) = false by simp; omega]
        have K0 := Lib.hid (K3.out true false)
        have B0 := Lib.hid (B3.out true false)
        have hww := hw3 true false
        have ca1 : (w3 true false).cell? ⟨w.heap.size, 1, none⟩ = some (.bool true) := CB.at_ (KA.out true false).1 1
        have ca2 : (w3 true false).cell? ⟨w.heap.size, 2, none⟩ = some (.int .u64 A) := CB.at_ (KA.out true false).1 2
        have cb1 : (w3 true false).cell? ⟨w.heap.size + 1, 1, none⟩ = some (.bool false) := CB.at_ (KA.out true false).2 1
        have cb2 : (w3 true false).cell? ⟨w.heap.size + 1, 2, none⟩ = some (.int .u64 B) := CB.at_ (KA.out true false).2 2
        have hva : v = -A := by omega
        have hub : u = B := by omega
        have hvu : v * u = -(A * B) := by rw [hva, hub, Int.neg_mul]
        have za : (A == 0) = true := by rw [beq_iff_eq]; omega
        have hz : v * u = 0 := by rw [hvu, show A = 0 by omega]; simp
        have HSM : Hid ((0 : Int) = v * u) := hz.symm
        clear hz hvu hva hub hA hB hv hu hvs hus hz1
        clear hw3 K3 B3 KA
        go_enter Tryd.func66, Tryd.ntmps66
        go_wp2_with fail
        refine (rnum_any _ false 0 (by decide) (by decide)).mono ?_
        rintro e w4 ⟨i4, g4, m4, s4, x4, rfl, b4, hs4⟩
        change Says (numE (0)) i4 g4 m4 s4 x4 at hs4
        rw [HSM.out] at hs4
        have k4 := Lib.hid (K0.out.below b4)
        have HS4 := Lib.hid hs4
        have B4 := Lib.hid (B0.out.1.trans (b4.mono B0.out.1.size))
        clear b4 hs4 HSM
        go_wp2_with (refine wpList_store_cb rfl 51 (.tmp 4) (.tmp 16) rfl (w.heap.size + 1 + 1) _ #[.int .i64 i4, .bool g4, .int .u64 m4, .string s4] rfl rfl k4.out rfl (by kernel_rfl) (by kernel_rfl) ?_; intro w9 k9 t9)
        exact bodyPost_ret (v := .tuple #[.agg #[.int .i64 i4, .bool g4, .int .u64 m4, .string s4], .int .i64 x4]) (results_cv rfl _ _ _ _ _ rfl rfl k9 Tryd.underlying51 rfl (by kernel_rfl)) rfl ⟨_, _, _, _, _, rfl, B4.out.trans (t9.below (by omega)), HS4.out⟩
      by_cases hz2 : B = 0
      case pos =>
        rw [show decide (v < 0) = true by simp; omega, show decide (u < 0) = false by simp; omega]
        have K0 := Lib.hid (K3.out true false)
        have B0 := Lib.hid (B3.out true false)
        have hww := hw3 true false
        have ca1 : (w3 true false).cell? ⟨w.heap.size, 1, none⟩ = some (.bool true) := CB.at_ (KA.out true false).1 1
        have ca2 : (w3 true false).cell? ⟨w.heap.size, 2, none⟩ = some (.int .u64 A) := CB.at_ (KA.out true false).1 2
        have cb1 : (w3 true false).cell? ⟨w.heap.size + 1, 1, none⟩ = some (.bool false) := CB.at_ (KA.out true false).2 1
        have cb2 : (w3 true false).cell? ⟨w.heap.size + 1, 2, none⟩ = some (.int .u64 B) := CB.at_ (KA.out true false).2 2
        have hva : v = -A := by omega
        have hub : u = B := by omega
        have hvu : v * u = -(A * B) := by rw [hva, hub, Int.neg_mul]
        have za : (A == 0) = false := by rw [beq_eq_false_iff_ne]; omega
        have zb : (B == 0) = true := by rw [beq_iff_eq]; omega
        have hz : v * u = 0 := by rw [hvu, show B = 0 by omega]; simp
        have HSM : Hid ((0 : Int) = v * u) := hz.symm
        clear hz hvu hva hub hA hB hv hu hvs hus hz1 hz2
        clear hw3 K3 B3 KA
        go_enter Tryd.func66, Tryd.ntmps66
        go_wp2_with fail
        refine (rnum_any _ false 0 (by decide) (by decide)).mono ?_
        rintro e w4 ⟨i4, g4, m4, s4, x4, rfl, b4, hs4⟩
        change Says (numE (0)) i4 g4 m4 s4 x4 at hs4
        rw [HSM.out] at hs4
        have k4 := Lib.hid (K0.out.below b4)
        have HS4 := Lib.hid hs4
        have B4 := Lib.hid (B0.out.1.trans (b4.mono B0.out.1.size))
        clear b4 hs4 HSM
        go_wp2_with (refine wpList_store_cb rfl 51 (.tmp 4) (.tmp 16) rfl (w.heap.size + 1 + 1) _ #[.int .i64 i4, .bool g4, .int .u64 m4, .string s4] rfl rfl k4.out rfl (by kernel_rfl) (by kernel_rfl) ?_; intro w9 k9 t9)
        exact bodyPost_ret (v := .tuple #[.agg #[.int .i64 i4, .bool g4, .int .u64 m4, .string s4], .int .i64 x4]) (results_cv rfl _ _ _ _ _ rfl rfl k9 Tryd.underlying51 rfl (by kernel_rfl)) rfl ⟨_, _, _, _, _, rfl, B4.out.trans (t9.below (by omega)), HS4.out⟩
      rw [show decide (v < 0) = true by simp; omega, show decide (u < 0) = false by simp; omega]
      have K0 := Lib.hid (K3.out true false)
      have B0 := Lib.hid (B3.out true false)
      have hww := hw3 true false
      have ca1 : (w3 true false).cell? ⟨w.heap.size, 1, none⟩ = some (.bool true) := CB.at_ (KA.out true false).1 1
      have ca2 : (w3 true false).cell? ⟨w.heap.size, 2, none⟩ = some (.int .u64 A) := CB.at_ (KA.out true false).1 2
      have cb1 : (w3 true false).cell? ⟨w.heap.size + 1, 1, none⟩ = some (.bool false) := CB.at_ (KA.out true false).2 1
      have cb2 : (w3 true false).cell? ⟨w.heap.size + 1, 2, none⟩ = some (.int .u64 B) := CB.at_ (KA.out true false).2 2
      have hva : v = -A := by omega
      have hub : u = B := by omega
      have hvu : v * u = -(A * B) := by rw [hva, hub, Int.neg_mul]
      have za : (A == 0) = false := by rw [beq_eq_false_iff_ne]; omega
      have zb : (B == 0) = false := by rw [beq_eq_false_iff_ne]; omega
      have zn : A ≠ 0 := hz1
      obtain ⟨Q, hQ⟩ : ∃ Q : Int, A * B = Q := ⟨_, rfl⟩
      have hQ0 : 0 ≤ Q := by rw [← hQ]; exact Int.mul_nonneg (by omega) (by omega)
      rw [hQ] at hvu
      by_cases hfit : Q < 18446744073709551616
      case pos =>
        have hw : IntKind.u64.wrap (A * B) = Q := by rw [hQ]; show Q % 18446744073709551616 = _; omega
        have hq2 : Q.tdiv A = B := tdiv_fit (by omega) hQ
        have hq1 : IntKind.u64.wrap B = B := by show B % 18446744073709551616 = _; omega
        have hq3 : (B != B) = false := by simp
        have HSM : Hid (-Q = v * u) := hvu.symm
        clear hvu hva hub hA hB hv hu hvs hus hz1 hz2 hQ
        clear hw3 K3 B3 KA
        go_enter Tryd.func66, Tryd.ntmps66
        go_wp2_with fail
        go_quiet (fail)
        have bq := Below.newN (w3 true false) nq
        have K0 := Lib.hid (K0.out.below bq)
        have B0 : Hid (Below w.heap.size w ((w3 true false).drewN nq) ∧ True) := ⟨B0.out.1.trans (bq.mono B0.out.1.size), trivial⟩
        clear bq
        go_wp2_with fail
        refine (rnum_any _ true Q hQ0 hfit).mono ?_
        rintro e w4 ⟨i4, g4, m4, s4, x4, rfl, b4, hs4⟩
        change Says (numE (-Q)) i4 g4 m4 s4 x4 at hs4
        rw [HSM.out] at hs4
        have k4 := Lib.hid (K0.out.below b4)
        have HS4 := Lib.hid hs4
        have B4 := Lib.hid (B0.out.1.trans (b4.mono B0.out.1.size))
        clear b4 hs4 HSM
        go_wp2_with (refine wpList_store_cb rfl 51 (.tmp 4) (.tmp 38) rfl (w.heap.size + 1 + 1) _ #[.int .i64 i4, .bool g4, .int .u64 m4, .string s4] rfl rfl k4.out rfl (by kernel_rfl) (by kernel_rfl) ?_; intro w9 k9 t9)
        exact bodyPost_ret (v := .tuple #[.agg #[.int .i64 i4, .bool g4, .int .u64 m4, .string s4], .int .i64 x4]) (results_cv rfl _ _ _ _ _ rfl rfl k9 Tryd.underlying51 rfl (by kernel_rfl)) rfl ⟨_, _, _, _, _, rfl, B4.out.trans (t9.below (by omega)), HS4.out⟩
      obtain ⟨P, hP⟩ : ∃ P : Int, Q % 18446744073709551616 = P := ⟨_, rfl⟩
      have hP0 : 0 ≤ P := by omega
      have hP1 : P < 18446744073709551616 := by omega
      have hw : IntKind.u64.wrap (A * B) = P := by rw [hQ]; exact hP
      obtain ⟨D, hD⟩ : ∃ D : Int, P.tdiv A = D := ⟨_, rfl⟩
      have hne : P.tdiv A ≠ B := tdiv_over (by omega) hQ hP0 (by omega)
      rw [hD] at hne
      have hD0 : 0 ≤ D := by rw [← hD]; exact Int.tdiv_nonneg hP0 (by omega)
      have hD1 : D < 18446744073709551616 := by
        have h1 := Int.ediv_le_self A hP0
        rw [← hD, Int.tdiv_eq_ediv_of_nonneg hP0]
        omega
      have hq1 : IntKind.u64.wrap D = D := by show D % 18446744073709551616 = _; omega
      have hq3 : (D != B) = true := by rw [bne_iff_ne]; exact hne
      have HS4 : Hid (Says (numE (v * u)) 0 false 0 ⟨#[]⟩ 111) := says_big hvu (by omega)
      clear hvu hva hub hA hB hv hu hvs hus hz1 hz2 hQ hP hne
      clear hw3 K3 B3 KA
      go_enter Tryd.func66, Tryd.ntmps66
      go_wp2_with fail
      go_quiet (fail)
      have bq := Below.newN (w3 true false) nq
      have K0 := Lib.hid (K0.out.below bq)
      have B0 : Hid (Below w.heap.size w ((w3 true false).drewN nq) ∧ True) := ⟨B0.out.1.trans (bq.mono B0.out.1.size), trivial⟩
      clear bq
      go_wp2_with (refine wpList_store_cb rfl 51 (.tmp 4) (.tmp 30) rfl (w.heap.size + 1 + 1) _ #[.int .i64 0, .bool false, .int .u64 0, .string ⟨#[]⟩] rfl rfl K0.out rfl (by kernel_rfl) (by kernel_rfl) ?_; intro w9 k9 t9)
      exact bodyPost_ret (v := .tuple #[.agg #[.int .i64 0, .bool false, .int .u64 0, .string ⟨#[]⟩], .int .i64 111]) (results_cv rfl _ _ _ _ _ rfl rfl k9 Tryd.underlying51 rfl (by kernel_rfl)) rfl ⟨_, _, _, _, _, rfl, B0.out.1.trans (t9.below (by omega)), HS4.out⟩
  · by_cases hus : u < 0
    · by_cases hz1 : A = 0
      case pos =>
        rw [show decide (v < 0) = false by simp; omega, show decide (u < 0) = true by simp; omega]
        have K0 := Lib.hid (K3.out false true)
        have B0 := Lib.hid (B3.out false true)
        have hww := hw3 false true
        have ca1 : (w3 false true).cell? ⟨w.heap.size, 1, none⟩ = some (.bool false) := CB.at_ (KA.out false true).1 1
        have ca2 : (w3 false true).cell? ⟨w.heap.size, 2, none⟩ = some (.int .u64 A) := CB.at_ (KA.out false true).1 2
        have cb1 : (w3 false true).cell? ⟨w.heap.size + 1, 1, none⟩ = some (.bool true) := CB.at_ (KA.out false true).2 1
        have cb2 : (w3 false true).cell? ⟨w.heap.size + 1, 2, none⟩ = some (.int .u64 B) := CB.at_ (KA.out false true).2 2
        have hva : v = A := by omega
        have hub : u = -B := by omega
        have hvu : v * u = -(A * B) := by rw [hva, hub, Int.mul_neg]
        have za : (A == 0) = true := by rw [beq_iff_eq]; omega
        have hz : v * u = 0 := by rw [hvu, show A = 0 by omega]; simp
        have HSM : Hid ((0 : Int) = v * u) := hz.symm
        clear hz hvu hva hub hA hB hv hu hvs hus hz1
        clear hw3 K3 B3 KA
        go_enter Tryd.func66, Tryd.ntmps66
        go_wp2_with fail
        refine (rnum_any _ false 0 (by decide) (by decide)).mono ?_
        rintro e w4 ⟨i4, g4, m4, s4, x4, rfl, b4, hs4⟩
        change Says (numE (0)) i4 g4 m4 s4 x4 at hs4
        rw [HSM.out] at hs4
        have k4 := Lib.hid (K0.out.below b4)
        have HS4 := Lib.hid hs4
        have B4 := Lib.hid (B0.out.1.trans (b4.mono B0.out.1.size))
        clear b4 hs4 HSM
        go_wp2_with (refine wpList_store_cb rfl 51 (.tmp 4) (.tmp 16) rfl (w.heap.size + 1 + 1) _ #[.int .i64 i4, .bool g4, .int .u64 m4, .string s4] rfl rfl k4.out rfl (by kernel_rfl) (by kernel_rfl) ?_; intro w9 k9 t9)
        exact bodyPost_ret (v := .tuple #[.agg #[.int .i64 i4, .bool g4, .int .u64 m4, .string s4], .int .i64 x4]) (results_cv rfl _ _ _ _ _ rfl rfl k9 Tryd.underlying51 rfl (by kernel_rfl)) rfl ⟨_, _, _, _, _, rfl, B4.out.trans (t9.below (by omega)), HS4.out⟩
      by_cases hz2 : B = 0
      case pos =>
        rw [show decide (v < 0) = false by simp; omega, show decide (u < 0) = true by simp; omega]
        have K0 := Lib.hid (K3.out false true)
        have B0 := Lib.hid (B3.out false true)
        have hww := hw3 false true
        have ca1 : (w3 false true).cell? ⟨w.heap.size, 1, none⟩ = some (.bool false) := CB.at_ (KA.out false true).1 1
        have ca2 : (w3 false true).cell? ⟨w.heap.size, 2, none⟩ = some (.int .u64 A) := CB.at_ (KA.out false true).1 2
        have cb1 : (w3 false true).cell? ⟨w.heap.size + 1, 1, none⟩ = some (.bool true) := CB.at_ (KA.out false true).2 1
        have cb2 : (w3 false true).cell? ⟨w.heap.size + 1, 2, none⟩ = some (.int .u64 B) := CB.at_ (KA.out false true).2 2
        have hva : v = A := by omega
        have hub : u = -B := by omega
        have hvu : v * u = -(A * B) := by rw [hva, hub, Int.mul_neg]
        have za : (A == 0) = false := by rw [beq_eq_false_iff_ne]; omega
        have zb : (B == 0) = true := by rw [beq_iff_eq]; omega
        have hz : v * u = 0 := by rw [hvu, show B = 0 by omega]; simp
        have HSM : Hid ((0 : Int) = v * u) := hz.symm
        clear hz hvu hva hub hA hB hv hu hvs hus hz1 hz2
        clear hw3 K3 B3 KA
        go_enter Tryd.func66, Tryd.ntmps66
        go_wp2_with fail
        refine (rnum_any _ false 0 (by decide) (by decide)).mono ?_
        rintro e w4 ⟨i4, g4, m4, s4, x4, rfl, b4, hs4⟩
        change Says (numE (0)) i4 g4 m4 s4 x4 at hs4
        rw [HSM.out] at hs4
        have k4 := Lib.hid (K0.out.below b4)
        have HS4 := Lib.hid hs4
        have B4 := Lib.hid (B0.out.1.trans (b4.mono B0.out.1.size))
        clear b4 hs4 HSM
        go_wp2_with (refine wpList_store_cb rfl 51 (.tmp 4) (.tmp 16) rfl (w.heap.size + 1 + 1) _ #[.int .i64 i4, .bool g4, .int .u64 m4, .string s4] rfl rfl k4.out rfl (by kernel_rfl) (by kernel_rfl) ?_; intro w9 k9 t9)
        exact bodyPost_ret (v := .tuple #[.agg #[.int .i64 i4, .bool g4, .int .u64 m4, .string s4], .int .i64 x4]) (results_cv rfl _ _ _ _ _ rfl rfl k9 Tryd.underlying51 rfl (by kernel_rfl)) rfl ⟨_, _, _, _, _, rfl, B4.out.trans (t9.below (by omega)), HS4.out⟩
      rw [show decide (v < 0) = false by simp; omega, show decide (u < 0) = true by simp; omega]
      have K0 := Lib.hid (K3.out false true)
      have B0 := Lib.hid (B3.out false true)
      have hww := hw3 false true
      have ca1 : (w3 false true).cell? ⟨w.heap.size, 1, none⟩ = some (.bool false) := CB.at_ (KA.out false true).1 1
      have ca2 : (w3 false true).cell? ⟨w.heap.size, 2, none⟩ = some (.int .u64 A) := CB.at_ (KA.out false true).1 2
      have cb1 : (w3 false true).cell? ⟨w.heap.size + 1, 1, none⟩ = some (.bool true) := CB.at_ (KA.out false true).2 1
      have cb2 : (w3 false true).cell? ⟨w.heap.size + 1, 2, none⟩ = some (.int .u64 B) := CB.at_ (KA.out false true).2 2
      have hva : v = A := by omega
      have hub : u = -B := by omega
      have hvu : v * u = -(A * B) := by rw [hva, hub, Int.mul_neg]
      have za : (A == 0) = false := by rw [beq_eq_false_iff_ne]; omega
      have zb : (B == 0) = false := by rw [beq_eq_false_iff_ne]; omega
      have zn : A ≠ 0 := hz1
      obtain ⟨Q, hQ⟩ : ∃ Q : Int, A * B = Q := ⟨_, rfl⟩
      have hQ0 : 0 ≤ Q := by rw [← hQ]; exact Int.mul_nonneg (by omega) (by omega)
      rw [hQ] at hvu
      by_cases hfit : Q < 18446744073709551616
      case pos =>
        have hw : IntKind.u64.wrap (A * B) = Q := by rw [hQ]; show Q % 18446744073709551616 = _; omega
        have hq2 : Q.tdiv A = B := tdiv_fit (by omega) hQ
        have hq1 : IntKind.u64.wrap B = B := by show B % 18446744073709551616 = _; omega
        have hq3 : (B != B) = false := by simp
        have HSM : Hid (-Q = v * u) := hvu.symm
        clear hvu hva hub hA hB hv hu hvs hus hz1 hz2 hQ
        clear hw3 K3 B3 KA
        go_enter Tryd.func66, Tryd.ntmps66
        go_wp2_with fail
        go_quiet (fail)
        have bq := Below.newN (w3 false true) nq
        have K0 := Lib.hid (K0.out.below bq)
        have B0 : Hid (Below w.heap.size w ((w3 false true).drewN nq) ∧ True) := ⟨B0.out.1.trans (bq.mono B0.out.1.size), trivial⟩
        clear bq
        go_wp2_with fail
        refine (rnum_any _ true Q hQ0 hfit).mono ?_
        rintro e w4 ⟨i4, g4, m4, s4, x4, rfl, b4, hs4⟩
        change Says (numE (-Q)) i4 g4 m4 s4 x4 at hs4
        rw [HSM.out] at hs4
        have k4 := Lib.hid (K0.out.below b4)
        have HS4 := Lib.hid hs4
        have B4 := Lib.hid (B0.out.1.trans (b4.mono B0.out.1.size))
        clear b4 hs4 HSM
        go_wp2_with (refine wpList_store_cb rfl 51 (.tmp 4) (.tmp 38) rfl (w.heap.size + 1 + 1) _ #[.int .i64 i4, .bool g4, .int .u64 m4, .string s4] rfl rfl k4.out rfl (by kernel_rfl) (by kernel_rfl) ?_; intro w9 k9 t9)
        exact bodyPost_ret (v := .tuple #[.agg #[.int .i64 i4, .bool g4, .int .u64 m4, .string s4], .int .i64 x4]) (results_cv rfl _ _ _ _ _ rfl rfl k9 Tryd.underlying51 rfl (by kernel_rfl)) rfl ⟨_, _, _, _, _, rfl, B4.out.trans (t9.below (by omega)), HS4.out⟩
      obtain ⟨P, hP⟩ : ∃ P : Int, Q % 18446744073709551616 = P := ⟨_, rfl⟩
      have hP0 : 0 ≤ P := by omega
      have hP1 : P < 18446744073709551616 := by omega
      have hw : IntKind.u64.wrap (A * B) = P := by rw [hQ]; exact hP
      obtain ⟨D, hD⟩ : ∃ D : Int, P.tdiv A = D := ⟨_, rfl⟩
      have hne : P.tdiv A ≠ B := tdiv_over (by omega) hQ hP0 (by omega)
      rw [hD] at hne
      have hD0 : 0 ≤ D := by rw [← hD]; exact Int.tdiv_nonneg hP0 (by omega)
      have hD1 : D < 18446744073709551616 := by
        have h1 := Int.ediv_le_self A hP0
        rw [← hD, Int.tdiv_eq_ediv_of_nonneg hP0]
        omega
      have hq1 : IntKind.u64.wrap D = D := by show D % 18446744073709551616 = _; omega
      have hq3 : (D != B) = true := by rw [bne_iff_ne]; exact hne
      have HS4 : Hid (Says (numE (v * u)) 0 false 0 ⟨#[]⟩ 111) := says_big hvu (by omega)
      clear hvu hva hub hA hB hv hu hvs hus hz1 hz2 hQ hP hne
      clear hw3 K3 B3 KA
      go_enter Tryd.func66, Tryd.ntmps66
      go_wp2_with fail
      go_quiet (fail)
      have bq := Below.newN (w3 false true) nq
      have K0 := Lib.hid (K0.out.below bq)
      have B0 : Hid (Below w.heap.size w ((w3 false true).drewN nq) ∧ True) := ⟨B0.out.1.trans (bq.mono B0.out.1.size), trivial⟩
      clear bq
      go_wp2_with (refine wpList_store_cb rfl 51 (.tmp 4) (.tmp 30) rfl (w.heap.size + 1 + 1) _ #[.int .i64 0, .bool false, .int .u64 0, .string ⟨#[]⟩] rfl rfl K0.out rfl (by kernel_rfl) (by kernel_rfl) ?_; intro w9 k9 t9)
      exact bodyPost_ret (v := .tuple #[.agg #[.int .i64 0, .bool false, .int .u64 0, .string ⟨#[]⟩], .int .i64 111]) (results_cv rfl _ _ _ _ _ rfl rfl k9 Tryd.underlying51 rfl (by kernel_rfl)) rfl ⟨_, _, _, _, _, rfl, B0.out.1.trans (t9.below (by omega)), HS4.out⟩
    · by_cases hz1 : A = 0
      case pos =>
        rw [show decide (v < 0) = false by simp; omega, show decide (u < 0) = false by simp; omega]
        have K0 := Lib.hid (K3.out false false)
        have B0 := Lib.hid (B3.out false false)
        have hww := hw3 false false
        have ca1 : (w3 false false).cell? ⟨w.heap.size, 1, none⟩ = some (.bool false) := CB.at_ (KA.out false false).1 1
        have ca2 : (w3 false false).cell? ⟨w.heap.size, 2, none⟩ = some (.int .u64 A) := CB.at_ (KA.out false false).1 2
        have cb1 : (w3 false false).cell? ⟨w.heap.size + 1, 1, none⟩ = some (.bool false) := CB.at_ (KA.out false false).2 1
        have cb2 : (w3 false false).cell? ⟨w.heap.size + 1, 2, none⟩ = some (.int .u64 B) := CB.at_ (KA.out false false).2 2
        have hva : v = A := by omega
        have hub : u = B := by omega
        have hvu : v * u = (A * B) := by rw [hva, hub]
        have za : (A == 0) = true := by rw [beq_iff_eq]; omega
        have hz : v * u = 0 := by rw [hvu, show A = 0 by omega]; simp
        have HSM : Hid ((0 : Int) = v * u) := hz.symm
        clear hz hvu hva hub hA hB hv hu hvs hus hz1
        clear hw3 K3 B3 KA
        go_enter Tryd.func66, Tryd.ntmps66
        go_wp2_with fail
        refine (rnum_any _ false 0 (by decide) (by decide)).mono ?_
        rintro e w4 ⟨i4, g4, m4, s4, x4, rfl, b4, hs4⟩
        change Says (numE (0)) i4 g4 m4 s4 x4 at hs4
        rw [HSM.out] at hs4
        have k4 := Lib.hid (K0.out.below b4)
        have HS4 := Lib.hid hs4
        have B4 := Lib.hid (B0.out.1.trans (b4.mono B0.out.1.size))
        clear b4 hs4 HSM
        go_wp2_with (refine wpList_store_cb rfl 51 (.tmp 4) (.tmp 16) rfl (w.heap.size + 1 + 1) _ #[.int .i64 i4, .bool g4, .int .u64 m4, .string s4] rfl rfl k4.out rfl (by kernel_rfl) (by kernel_rfl) ?_; intro w9 k9 t9)
        exact bodyPost_ret (v := .tuple #[.agg #[.int .i64 i4, .bool g4, .int .u64 m4, .string s4], .int .i64 x4]) (results_cv rfl _ _ _ _ _ rfl rfl k9 Tryd.underlying51 rfl (by kernel_rfl)) rfl ⟨_, _, _, _, _, rfl, B4.out.trans (t9.below (by omega)), HS4.out⟩
      by_cases hz2 : B = 0
      case pos =>
        rw [show decide (v < 0) = false by simp; omega, show decide (u < 0) = false by simp; omega]
        have K0 := Lib.hid (K3.out false false)
        have B0 := Lib.hid (B3.out false false)
        have hww := hw3 false false
        have ca1 : (w3 false false).cell? ⟨w.heap.size, 1, none⟩ = some (.bool false) := CB.at_ (KA.out false false).1 1
        have ca2 : (w3 false false).cell? ⟨w.heap.size, 2, none⟩ = some (.int .u64 A) := CB.at_ (KA.out false false).1 2
        have cb1 : (w3 false false).cell? ⟨w.heap.size + 1, 1, none⟩ = some (.bool false) := CB.at_ (KA.out false false).2 1
        have cb2 : (w3 false false).cell? ⟨w.heap.size + 1, 2, none⟩ = some (.int .u64 B) := CB.at_ (KA.out false false).2 2
        have hva : v = A := by omega
        have hub : u = B := by omega
        have hvu : v * u = (A * B) := by rw [hva, hub]
        have za : (A == 0) = false := by rw [beq_eq_false_iff_ne]; omega
        have zb : (B == 0) = true := by rw [beq_iff_eq]; omega
        have hz : v * u = 0 := by rw [hvu, show B = 0 by omega]; simp
        have HSM : Hid ((0 : Int) = v * u) := hz.symm
        clear hz hvu hva hub hA hB hv hu hvs hus hz1 hz2
        clear hw3 K3 B3 KA
        go_enter Tryd.func66, Tryd.ntmps66
        go_wp2_with fail
        refine (rnum_any _ false 0 (by decide) (by decide)).mono ?_
        rintro e w4 ⟨i4, g4, m4, s4, x4, rfl, b4, hs4⟩
        change Says (numE (0)) i4 g4 m4 s4 x4 at hs4
        rw [HSM.out] at hs4
        have k4 := Lib.hid (K0.out.below b4)
        have HS4 := Lib.hid hs4
        have B4 := Lib.hid (B0.out.1.trans (b4.mono B0.out.1.size))
        clear b4 hs4 HSM
        go_wp2_with (refine wpList_store_cb rfl 51 (.tmp 4) (.tmp 16) rfl (w.heap.size + 1 + 1) _ #[.int .i64 i4, .bool g4, .int .u64 m4, .string s4] rfl rfl k4.out rfl (by kernel_rfl) (by kernel_rfl) ?_; intro w9 k9 t9)
        exact bodyPost_ret (v := .tuple #[.agg #[.int .i64 i4, .bool g4, .int .u64 m4, .string s4], .int .i64 x4]) (results_cv rfl _ _ _ _ _ rfl rfl k9 Tryd.underlying51 rfl (by kernel_rfl)) rfl ⟨_, _, _, _, _, rfl, B4.out.trans (t9.below (by omega)), HS4.out⟩
      rw [show decide (v < 0) = false by simp; omega, show decide (u < 0) = false by simp; omega]
      have K0 := Lib.hid (K3.out false false)
      have B0 := Lib.hid (B3.out false false)
      have hww := hw3 false false
      have ca1 : (w3 false false).cell? ⟨w.heap.size, 1, none⟩ = some (.bool false) := CB.at_ (KA.out false false).1 1
      have ca2 : (w3 false false).cell? ⟨w.heap.size, 2, none⟩ = some (.int .u64 A) := CB.at_ (KA.out false false).1 2
      have cb1 : (w3 false false).cell? ⟨w.heap.size + 1, 1, none⟩ = some (.bool false) := CB.at_ (KA.out false false).2 1
      have cb2 : (w3 false false).cell? ⟨w.heap.size + 1, 2, none⟩ = some (.int .u64 B) := CB.at_ (KA.out false false).2 2
      have hva : v = A := by omega
      have hub : u = B := by omega
      have hvu : v * u = (A * B) := by rw [hva, hub]
      have za : (A == 0) = false := by rw [beq_eq_false_iff_ne]; omega
      have zb : (B == 0) = false := by rw [beq_eq_false_iff_ne]; omega
      have zn : A ≠ 0 := hz1
      obtain ⟨Q, hQ⟩ : ∃ Q : Int, A * B = Q := ⟨_, rfl⟩
      have hQ0 : 0 ≤ Q := by rw [← hQ]; exact Int.mul_nonneg (by omega) (by omega)
      rw [hQ] at hvu
      by_cases hfit : Q < 18446744073709551616
      case pos =>
        have hw : IntKind.u64.wrap (A * B) = Q := by rw [hQ]; show Q % 18446744073709551616 = _; omega
        have hq2 : Q.tdiv A = B := tdiv_fit (by omega) hQ
        have hq1 : IntKind.u64.wrap B = B := by show B % 18446744073709551616 = _; omega
        have hq3 : (B != B) = false := by simp
        have HSM : Hid (Q = v * u) := hvu.symm
        clear hvu hva hub hA hB hv hu hvs hus hz1 hz2 hQ
        clear hw3 K3 B3 KA
        go_enter Tryd.func66, Tryd.ntmps66
        go_wp2_with fail
        go_quiet (fail)
        have bq := Below.newN (w3 false false) nq
        have K0 := Lib.hid (K0.out.below bq)
        have B0 : Hid (Below w.heap.size w ((w3 false false).drewN nq) ∧ True) := ⟨B0.out.1.trans (bq.mono B0.out.1.size), trivial⟩
        clear bq
        go_wp2_with fail
        refine (rnum_any _ false Q hQ0 hfit).mono ?_
        rintro e w4 ⟨i4, g4, m4, s4, x4, rfl, b4, hs4⟩
        change Says (numE (Q)) i4 g4 m4 s4 x4 at hs4
        rw [HSM.out] at hs4
        have k4 := Lib.hid (K0.out.below b4)
        have HS4 := Lib.hid hs4
        have B4 := Lib.hid (B0.out.1.trans (b4.mono B0.out.1.size))
        clear b4 hs4 HSM
        go_wp2_with (refine wpList_store_cb rfl 51 (.tmp 4) (.tmp 38) rfl (w.heap.size + 1 + 1) _ #[.int .i64 i4, .bool g4, .int .u64 m4, .string s4] rfl rfl k4.out rfl (by kernel_rfl) (by kernel_rfl) ?_; intro w9 k9 t9)
        exact bodyPost_ret (v := .tuple #[.agg #[.int .i64 i4, .bool g4, .int .u64 m4, .string s4], .int .i64 x4]) (results_cv rfl _ _ _ _ _ rfl rfl k9 Tryd.underlying51 rfl (by kernel_rfl)) rfl ⟨_, _, _, _, _, rfl, B4.out.trans (t9.below (by omega)), HS4.out⟩
      obtain ⟨P, hP⟩ : ∃ P : Int, Q % 18446744073709551616 = P := ⟨_, rfl⟩
      have hP0 : 0 ≤ P := by omega
      have hP1 : P < 18446744073709551616 := by omega
      have hw : IntKind.u64.wrap (A * B) = P := by rw [hQ]; exact hP
      obtain ⟨D, hD⟩ : ∃ D : Int, P.tdiv A = D := ⟨_, rfl⟩
      have hne : P.tdiv A ≠ B := tdiv_over (by omega) hQ hP0 (by omega)
      rw [hD] at hne
      have hD0 : 0 ≤ D := by rw [← hD]; exact Int.tdiv_nonneg hP0 (by omega)
      have hD1 : D < 18446744073709551616 := by
        have h1 := Int.ediv_le_self A hP0
        rw [← hD, Int.tdiv_eq_ediv_of_nonneg hP0]
        omega
      have hq1 : IntKind.u64.wrap D = D := by show D % 18446744073709551616 = _; omega
      have hq3 : (D != B) = true := by rw [bne_iff_ne]; exact hne
      have HS4 : Hid (Says (numE (v * u)) 0 false 0 ⟨#[]⟩ 111) := says_big hvu (by omega)
      clear hvu hva hub hA hB hv hu hvs hus hz1 hz2 hQ hP hne
      clear hw3 K3 B3 KA
      go_enter Tryd.func66, Tryd.ntmps66
      go_wp2_with fail
      go_quiet (fail)
      have bq := Below.newN (w3 false false) nq
      have K0 := Lib.hid (K0.out.below bq)
      have B0 : Hid (Below w.heap.size w ((w3 false false).drewN nq) ∧ True) := ⟨B0.out.1.trans (bq.mono B0.out.1.size), trivial⟩
      clear bq
      go_wp2_with (refine wpList_store_cb rfl 51 (.tmp 4) (.tmp 30) rfl (w.heap.size + 1 + 1) _ #[.int .i64 0, .bool false, .int .u64 0, .string ⟨#[]⟩] rfl rfl K0.out rfl (by kernel_rfl) (by kernel_rfl) ?_; intro w9 k9 t9)
      exact bodyPost_ret (v := .tuple #[.agg #[.int .i64 0, .bool false, .int .u64 0, .string ⟨#[]⟩], .int .i64 111]) (results_cv rfl _ _ _ _ _ rfl rfl k9 Tryd.underlying51 rfl (by kernel_rfl)) rfl ⟨_, _, _, _, _, rfl, B0.out.1.trans (t9.below (by omega)), HS4.out⟩
end Go.Proofs.YtmbiompmhaiehaaDoor
/- The walks of the reference: Rep, Hex. -/
namespace Go.Proofs.YtmbiompmhaiehaaDoor
open Go.RowKit
open Go.Lib (byteCells)

/-- At the operation, out of a run equation, of any two types. -/
theorem wpList_append_run2 {P : Program} {w w' : World} {ops : Array Oper} {rest : List Oper} {o : Oper} {a : Act} {Q : Exit → Act → World → Prop} (hgd : o.guard = none) (s x : Operand) (T U : TypeId)
    (ho : o.op = .call { callee := .builtin .append, args := #[s, x], argTypes := #[T, U] }) {u v v' : Value} (hs : a.eval s = u) (hx : a.eval x = v)
    (hrun : (Builtin.append_ #[T, U] o.type #[u, v]).run P w = .ok v' w') (h : wpList P ops Q rest (a.put o.dst v') w') : wpList P ops Q (o :: rest) a w :=
  wpList_plain hgd fun _ hK => by
    unfold Oper.wp execOp
    simp only [ho, resolve, invoke, builtin, Sem.run_bind, Sem.run_pure, Result.andThen_ok, List.map_toArray, List.map_cons, List.map_nil, hs, hx, hrun]
    exact hK _ _ h

theorem own_empty (w : World) (T : TypeId) (base : Nat) (hb : base ≤ w.heap.size) (hT : T = 5) : OwnB (w.alloc (.cells #[] T)) base 5 (some ⟨w.heap.size, 0, none⟩) 0 [] := by
  subst hT
  exact ⟨rfl, .inr ⟨w.heap.size, 0, _, rfl, hb, heap_alloc_new w _, Nat.le_refl _, Nat.zero_le _, rfl, rfl⟩⟩

theorem own_text {w : World} {base : Nat} {v : Value} {n : Nat} {l : List UInt8} (h : w.ownsRow base 5 1 v n (byteCells l)) (hn : n = l.length) : ∃ A c, v = .slice A l.length c ∧ OwnB w base 5 A c l := by
  subst hn
  rcases h.2 with ⟨rfl, h0⟩ | ⟨g, cap, cur, rfl, rest⟩
  · exact ⟨none, 0, by rw [h0], by unfold OwnB; rw [h0] at h ⊢; exact h⟩
  · exact ⟨some ⟨g, 0, none⟩, cap, rfl, h⟩

/-- a text appended -/
theorem run_app_text {w : World} {base : Nat} {A : Option Addr} {c : Nat} {pre : List UInt8} (ho : OwnB w base 5 A c pre) (s : ByteArray) (r : List UInt8) (hr : r = pre ++ ls s) (hm : r.length ≤ 140737488355328) (hbase : base ≤ w.heap.size) :
    ∃ A' c' w', (Builtin.append_ #[96, 9] 96 #[.slice A pre.length c, .string s]).run Tryd.prog w = .ok (.slice A' r.length c') w' ∧ OwnB w' base 5 A' c' r ∧ Below base w w' := by
  obtain ⟨i0, hi, hz0, hz1, hz2⟩ := info_parts infoB
  have hl : r.length = pre.length + s.size := by rw [hr, List.length_append, ls_size]
  obtain ⟨v', w', h1, h2, h3, _⟩ := Go.Lib.run_append_own_string (P := Tryd.prog) w base 96 9 96 5 i0 Tryd.underlying96 Tryd.underlying9 hi hz0 hz1 hz2 (.slice A pre.length c) pre.length (byteCells pre) ho s
    (by simp only [maxLen]; omega) (by omega) hbase
  rw [strCells_ls, ← Go.Lib.byteCells_append, ← hr] at h2
  obtain ⟨A', c', rfl, ho'⟩ := own_text h2 (by omega)
  exact ⟨A', c', w', h1, ho', (Below.refl base w).grown h3 hbase fun k hk => (ho.lt k hk).1⟩

set_option maxRecDepth 100000 in
set_option maxHeartbeats 2000000 in
theorem rrep_any {w : World} (s : ByteArray) (n : Nat) (hn : n ≤ 18446744073709551615) (hs : s.size ≤ 9223372036854775807) :
    Calls Tryd.prog 64 #[.string s, .int .u64 n] w fun e w' => e = .returned (.tuple #[.string (repT s n), .int .i64 (repE s n)]) ∧ Below w.heap.size w w' := by
  unfold repT repE
  by_cases h0 : s.size = 0
  · rw [rp_empty h0, h0, Nat.mul_zero, if_pos (Nat.zero_le _), if_pos (Nat.zero_le _)]
    obtain rfl := size_zero h0
    clear h0 hs
    go_enter Tryd.func64, Tryd.ntmps64
    go_wp2
    go_ret2
    exact ⟨rfl, Below.refl _ _⟩
  · have he := isEmpty_no h0
    by_cases hn0 : n = 0
    · subst hn0
      rw [Nat.zero_mul, if_pos (Nat.zero_le _), if_pos (Nat.zero_le _), rp_zero]
      clear h0 hs
      go_enter Tryd.func64, Tryd.ntmps64
      go_wp2
      go_ret2
      exact ⟨rfl, Below.refl _ _⟩
    · have hn1 : ((n : Int) == 0) = false := by simpa using hn0
      have hz : (n : Int) ≠ 0 := by omega
      by_cases hle : n * s.size ≤ 4096
      · rw [if_pos hle, if_pos hle]
        have hn2 : n ≤ 4096 := by
          have : n * 1 ≤ n * s.size := Nat.mul_le_mul_left _ (by omega)
          omega
        have hq0 : ¬ (4096 : Int) < (n : Int) := by omega
        have hq : ¬ ((4096 : Int) / (n : Int) < (s.size : Int)) := by
          have h1 : s.size ≤ 4096 / n := (Nat.le_div_iff_mul_le (by omega)).2 (by rw [Nat.mul_comm]; exact hle)
          have h2 : (4096 : Int) / (n : Int) = ((4096 / n : Nat) : Int) := rfl
          rw [h2]
          omega
        have hown := own_empty w 5 w.heap.size (Nat.le_refl _) rfl
        have hb0 : Below w.heap.size w (w.alloc (.cells #[] 5)) := (Below.refl _ w).alloc (Nat.le_refl _) _
        have HLE := Lib.hid hle
        clear hle
        go_enter Tryd.func64, Tryd.ntmps64
        go_wp2
        clear hq hq0
        go_loopw [6, 7] (fun o v wr => ∃ (k : Nat) (A : Option Addr) (c : Nat) (pre : List UInt8), o = .slice A pre.length c ∧ v = .int .u64 k ∧ k ≤ n ∧ Hid (pre = rpL s k) ∧ Hid (OwnB wr w.heap.size 5 A c pre) ∧ Below w.heap.size w wr) (fun _ v _ => n - (intOf v).toNat)
        case atStart => exact ⟨0, _, _, [], rfl, rfl, Nat.zero_le _, rfl, hown, hb0⟩
        case round =>
          obtain ⟨k, A, c, pre, rfl, rfl, hk, HP, HO, hbw⟩ := hrel
          by_cases hlt : k < n
          · obtain ⟨r, hr⟩ : ∃ r, r = pre ++ ls s := ⟨_, rfl⟩
            have hr2 : r = rpL s (k + 1) := by rw [hr, HP.out, rpL_succ]
            have hrl : r.length ≤ 4096 := by
              rw [hr2, rpL_len]
              exact Nat.le_trans (Nat.mul_le_mul_right _ hlt) HLE.out
            obtain ⟨A', c', w4, ha, ho4, hb4⟩ := run_app_text HO.out s r hr (by omega) hbw.size
            have HA := Lib.hid ha
            have HR := Lib.hid hr2
            have HO4 := Lib.hid ho4
            clear ha hr hr2 ho4 hrl
            go_wp2_with (at_builtin; refine wpList_append_run2 rfl (.tmp 30) (.tmp 31) _ _ rfl rfl rfl HA.out ?_)
            go_roundw
            case rel => exact ⟨k + 1, A', c', r, rfl, by go_num, by omega, HR, HO4, hbw.trans hb4⟩
            case measure => simp [intOf]; omega
          · obtain rfl : k = n := by omega
            have hst := own_byt HO.out c
            go_wp2
            go_ret2
            have e : rp s k = str pre := by unfold rp; rw [HP.out]
            rw [e]
            exact ⟨rfl, hbw⟩
      · rw [if_neg hle, if_neg hle]
        by_cases hq0 : (4096 : Int) < (n : Int)
        · clear hle
          go_enter Tryd.func64, Tryd.ntmps64
          go_wp2
          go_ret2
          exact ⟨rfl, Below.refl _ _⟩
        · have hq : (4096 : Int) / (n : Int) < (s.size : Int) := by
            have h1 : 4096 / n < s.size := (Nat.div_lt_iff_lt_mul (by omega)).2 (by rw [Nat.mul_comm]; omega)
            have h2 : (4096 : Int) / (n : Int) = ((4096 / n : Nat) : Int) := rfl
            rw [h2]
            omega
          clear hle
          go_enter Tryd.func64, Tryd.ntmps64
          go_wp2
          go_ret2
          exact ⟨rfl, Below.refl _ _⟩

set_option maxRecDepth 100000 in
set_option maxHeartbeats 2000000 in
theorem rhex_any {w : World} (s : ByteArray) (hs : s.size ≤ 140737488355328) :
    Calls Tryd.prog 63 #[.string s] w fun e w' => e = .returned (.tuple #[.string (hexT s), .int .i64 (hexE s)]) ∧ Below w.heap.size w w' := by
  obtain ⟨T, hT⟩ : ∃ T, hexT s = T := ⟨_, rfl⟩
  obtain ⟨E, hE⟩ : ∃ E, hexE s = E := ⟨_, rfl⟩
  rw [hT, hE]
  have HT := Lib.hid hT
  have HE := Lib.hid hE
  have bad : hexL (ls s) = none → Hid (T = ByteArray.empty ∧ E = 111) := fun h => by
    obtain ⟨a, b⟩ := hex_none h
    exact ⟨HT.out.symm.trans a, HE.out.symm.trans b⟩
  have good : ∀ t, hexL (ls s) = some t → Hid (T = str t ∧ E = 0) := fun t h => by
    obtain ⟨a, b⟩ := hex_some h
    exact ⟨HT.out.symm.trans a, HE.out.symm.trans b⟩
  have BAD := Lib.hid bad
  have GOOD := Lib.hid good
  clear hT hE bad good HT HE
  by_cases hodd : s.size % 2 = 0
  · have q0 : (s.size : Int) % 2 = 0 := by omega
    have hown := own_empty w 5 w.heap.size (Nat.le_refl _) rfl
    go_enter Tryd.func63, Tryd.ntmps63
    go_wp2
    clear q0
    go_loopw [4, 5] (fun o v wr => ∃ (k : Nat) (A : Option Addr) (c : Nat) (pre : List UInt8), o = .slice A pre.length c ∧ v = .int .i64 k ∧ k ≤ s.size ∧ k % 2 = 0 ∧ pre.length ≤ k ∧ Hid (OwnB wr w.heap.size 5 A c pre) ∧ Hid (Dec s k pre) ∧ Below w.heap.size w wr) (fun _ v _ => s.size - (intOf v).toNat)
    case atStart => exact ⟨0, _, _, [], rfl, rfl, Nat.zero_le _, rfl, Nat.le_refl _, hown, dec_start s, (Below.refl _ w).alloc (Nat.le_refl _) _⟩
    case round =>
      obtain ⟨k, A, c, pre, rfl, rfl, hk, hk2, hpk, HO, HD, hbw⟩ := hrel
      by_cases hlt : k < s.size
      · have hlt1 : k + 1 < s.size := by omega
        have hltz : (k : Int) < (s.size : Int) := by omega
        have hltz1 : (k : Int) + 1 < (s.size : Int) := by omega
        obtain ⟨x, hx⟩ : ∃ x, s[k]'hlt = x := ⟨_, rfl⟩
        obtain ⟨y, hy⟩ : ∃ y, s[k + 1]'hlt1 = y := ⟨_, rfl⟩
        have cx := fun W => rdigit_any W x.toNat (by have := x.toNat_lt; omega)
        have cy := fun W => rdigit_any W y.toNat (by have := y.toNat_lt; omega)
        by_cases hd : dv x.toNat = 16 ∨ dv y.toNat = 16
        · have hb := BAD.out (dec_bad HD.out hlt1 hx hy hd)
          obtain ⟨rfl, rfl⟩ := hb.out
          obtain ⟨p, hp⟩ : ∃ p, dv x.toNat = p := ⟨_, rfl⟩
          obtain ⟨q, hq⟩ : ∃ q, dv y.toNat = q := ⟨_, rfl⟩
          rw [hp, hq] at hd
          rw [hp] at cx
          rw [hq] at cy
          clear BAD GOOD hb hp hq
          by_cases h1 : p = 16
          · subst h1
            clear hd
            go_wp2_with (first
              | (go_at_call 82; (with_reducible refine (cx _).mono ?_); rintro e w2 ⟨rfl, rfl⟩)
              | (go_at_call 82; (with_reducible refine (cy _).mono ?_); rintro e w2 ⟨rfl, rfl⟩))
            go_ret2
            exact ⟨rfl, hbw⟩
          · have h2 : q = 16 := hd.resolve_left h1
            subst h2
            have h3 : ((p : Int) == 16) = false := by simp; omega
            clear hd
            go_wp2_with (first
              | (go_at_call 82; (with_reducible refine (cx _).mono ?_); rintro e w2 ⟨rfl, rfl⟩)
              | (go_at_call 82; (with_reducible refine (cy _).mono ?_); rintro e w2 ⟨rfl, rfl⟩))
            go_ret2
            exact ⟨rfl, hbw⟩
        · have hdx : dv x.toNat ≠ 16 := fun h => hd (.inl h)
          have hdy : dv y.toNat ≠ 16 := fun h => hd (.inr h)
          have hx16 := dv_le x.toNat
          have hy16 := dv_le y.toNat
          have hD2 := dec_more HD.out hlt1 hx hy hd
          obtain ⟨p, hp⟩ : ∃ p, dv x.toNat = p := ⟨_, rfl⟩
          obtain ⟨q, hq⟩ : ∃ q, dv y.toNat = q := ⟨_, rfl⟩
          rw [hp] at cx hx16 hdx hD2
          rw [hq] at cy hy16 hdy hD2
          have hp15 : p < 16 := by omega
          have hq15 : q < 16 := by omega
          have t1 : ((p : Int) == 16) = false := by simp; omega
          have t2 : ((q : Int) == 16) = false := by simp; omega
          have hz255 : 16 * p + q < 256 := by omega
          have hzi : (16 : Int) * (p : Int) + (q : Int) = ((16 * p + q : Nat) : Int) := by omega
          obtain ⟨r, hr⟩ : ∃ r, r = pre ++ [UInt8.ofNat (16 * p + q)] := ⟨_, rfl⟩
          rw [← hr] at hD2
          have hrl : r.length = pre.length + 1 := by rw [hr]; simp
          obtain ⟨A', c', w4, ha, ho4, hb4⟩ := run_app_new HO.out #[.int .u8 ((16 : Int) * (p : Int) + (q : Int))] [UInt8.ofNat (16 * p + q)] 1 rfl (by rw [hzi]; simp [byteCells, Nat.mod_eq_of_lt hz255]) 5 r hr (by omega) hbw.size
          have HRL := Lib.hid hrl
          have HA := Lib.hid ha
          have HO4 := Lib.hid ho4
          have HD4 := Lib.hid hD2
          clear BAD GOOD hd hdx hdy hx16 hy16 hp hq hzi hz255 hr ha ho4 hD2 hrl
          go_wp2_with (first
            | (go_at_call 82; (with_reducible refine (cx _).mono ?_); rintro e w2 ⟨rfl, rfl⟩)
            | (go_at_call 82; (with_reducible refine (cy _).mono ?_); rintro e w2 ⟨rfl, rfl⟩)
            | (at_builtin; refine wpList_append_run rfl (.tmp 34) (.tmp 39) _ rfl rfl rfl HA.out ?_))
          go_roundw
          case rel => exact ⟨k + 2, A', c', r, rfl, by go_num, by omega, by omega, by have := HRL.out; omega, HO4, HD4, hbw.trans hb4⟩
          case measure => simp [intOf]; omega
      · have hg := GOOD.out pre (dec_end HD.out (by omega))
        obtain ⟨rfl, rfl⟩ := hg.out
        have hst := own_byt HO.out c
        clear BAD GOOD hg
        go_wp2
        go_ret2
        exact ⟨rfl, hbw⟩
  · have hb := BAD.out (hexL_odd (by rw [ls_size]; exact hodd))
    obtain ⟨rfl, rfl⟩ := hb.out
    have q0 : (s.size : Int) % 2 = 1 := by omega
    clear BAD GOOD hb
    go_enter Tryd.func63, Tryd.ntmps63
    go_wp2
    go_ret2
    exact ⟨rfl, Below.refl _ _⟩
end Go.Proofs.YtmbiompmhaiehaaDoor
/- The walk of the reference: a leaf, a text so many times, one kid, two numbers (gen_rone.py). -/
namespace Go.Proofs.YtmbiompmhaiehaaDoor
open Go.RowKit

theorem says_err {i : Int} {g : Bool} {m : Int} {s : ByteArray} {e : Nat} (h : e ≠ 0) {x : Int} (hx : x = (e : Nat)) : Says (.error e) i g m s x := ⟨hx, by omega⟩
set_option maxRecDepth 100000 in
set_option maxHeartbeats 4000000 in
theorem rleaf_any (w : World) (x : Rn) (hx : arity x = some 0) (hm : x.num < 18446744073709551616) : Calls Tryd.prog 34 #[.agg #[.int .i64 x.op, .int .i64 x.n, .int .u64 (x.num : Nat), .string (str x.t), .int .i64 x.a]] w (RAt (ownV x []) w) := by
  have hop := arity_op hx
  have ho : x.op = 1 ∨ x.op = 2 ∨ x.op = 3 ∨ x.op = 4 := by omega
  clear hop hx
  obtain ⟨op, nn, num, t, na⟩ := x
  dsimp only at ho hm ⊢
  obtain ⟨M, hM⟩ : ∃ M : Int, (num : Int) = M := ⟨_, rfl⟩
  obtain ⟨X, hX⟩ : ∃ X, str t = X := ⟨_, rfl⟩
  have hXs : X.size = t.length := by rw [← hX, str_size]
  rw [hM, hX]
  obtain ⟨wz, hww⟩ : ∃ W : World, (w.alloc (.cells #[.int .i64 op, .int .i64 nn, .int .u64 M, .string X, .int .i64 na] 27)).alloc (.cells #[.int .i64 0, .bool false, .int .u64 0, .string ⟨#[]⟩] 51) = W := ⟨_, rfl⟩
  have BZ : Hid (Below w.heap.size w wz) := by
    rw [← hww]
    exact (((Below.refl _ w).alloc (Nat.le_refl _) _).alloc (by simp) _)
  have kz0 : Hid (CB wz (w.heap.size) 27 #[.int .i64 op, .int .i64 nn, .int .u64 M, .string X, .int .i64 na]) := by
    rw [← hww]
    have h := CB.new w 27 #[.int .i64 op, .int .i64 nn, .int .u64 M, .string X, .int .i64 na]
    have h : CB (w.alloc (.cells #[.int .i64 op, .int .i64 nn, .int .u64 M, .string X, .int .i64 na] 27)) (w.heap.size) 27 #[.int .i64 op, .int .i64 nn, .int .u64 M, .string X, .int .i64 na] := by simpa using h
    exact (h.below ((Below.refl _ _).alloc (Nat.le_refl _) _))
  have kz1 : Hid (CB wz (w.heap.size + 1) 51 #[.int .i64 0, .bool false, .int .u64 0, .string ⟨#[]⟩]) := by
    rw [← hww]
    have h := CB.new (w.alloc (.cells #[.int .i64 op, .int .i64 nn, .int .u64 M, .string X, .int .i64 na] 27)) 51 #[.int .i64 0, .bool false, .int .u64 0, .string ⟨#[]⟩]
    have h : CB ((w.alloc (.cells #[.int .i64 op, .int .i64 nn, .int .u64 M, .string X, .int .i64 na] 27)).alloc (.cells #[.int .i64 0, .bool false, .int .u64 0, .string ⟨#[]⟩] 51)) (w.heap.size + 1) 51 #[.int .i64 0, .bool false, .int .u64 0, .string ⟨#[]⟩] := by simpa using h
    exact h
  have c00 : wz.cell? ⟨w.heap.size, 0, none⟩ = some (.int .i64 op) := CB.at_ kz0.out 0
  have c02 : wz.cell? ⟨w.heap.size, 2, none⟩ = some (.int .u64 M) := CB.at_ kz0.out 2
  have c03 : wz.cell? ⟨w.heap.size, 3, none⟩ = some (.string X) := CB.at_ kz0.out 3
  rcases ho with ho | ho | ho | ho
  · subst ho
    have hv : ownV ⟨1, nn, num, t, na⟩ [] = numE M := by
      rw [← hM]
      unfold numE
      rw [if_pos (by omega)]
      rfl
    rw [hv]
    have h0 : 0 ≤ M := by omega
    have h1 : M < 18446744073709551616 := by omega
    clear hv hM hX hXs hm
    go_enter Tryd.func34, Tryd.ntmps34
    go_wp2_with fail
    refine (rnum_any _ false M h0 h1).mono ?_
    rintro e w4 ⟨i4, g4, m4, s4, x4, rfl, b4, hs4⟩
    have k4 := Lib.hid (kz1.out.below b4)
    have HS4 := Lib.hid hs4
    have B4 := Lib.hid (BZ.out.trans (b4.mono BZ.out.size))
    clear b4 hs4
    go_wp2_with (refine wpList_store_cb rfl 51 (.tmp 2) (.tmp 11) rfl (w.heap.size + 1) _ #[.int .i64 i4, .bool g4, .int .u64 m4, .string s4] rfl rfl k4.out rfl (by kernel_rfl) (by kernel_rfl) ?_; intro w9 k9 t9)
    exact bodyPost_ret (v := .tuple #[.agg #[.int .i64 i4, .bool g4, .int .u64 m4, .string s4], .int .i64 x4]) (results_cv rfl _ _ _ _ _ rfl rfl k9 Tryd.underlying51 rfl (by kernel_rfl)) rfl ⟨_, _, _, _, _, rfl, B4.out.trans (t9.below (by omega)), HS4.out⟩
  · subst ho
    by_cases hl : 4096 < t.length
    case pos =>
      have hz : (4096 : Int) < (X.size : Int) := by omega
      have HS : Hid (Says (ownV ⟨2, nn, num, t, na⟩ []) 0 false 0 ⟨#[]⟩ 2) := by
        have : ownV ⟨2, nn, num, t, na⟩ [] = .error 2 := by
          show textE t = _
          unfold textE
          rw [if_neg (by omega)]
        rw [this]
        exact says_err (e := 2) (by decide) rfl
      clear hM hX hXs hm hl
      go_enter Tryd.func34, Tryd.ntmps34
      go_wp2_with (refine wpList_store_cb rfl 51 (.tmp 2) (.tmp 19) rfl (w.heap.size + 1) _ #[.int .i64 0, .bool false, .int .u64 0, .string ⟨#[]⟩] rfl rfl kz1.out rfl (by kernel_rfl) (by kernel_rfl) ?_; intro w9 k9 t9)
      exact bodyPost_ret (v := .tuple #[.agg #[.int .i64 0, .bool false, .int .u64 0, .string ⟨#[]⟩], .int .i64 2]) (results_cv rfl _ _ _ _ _ rfl rfl k9 Tryd.underlying51 rfl (by kernel_rfl)) rfl ⟨_, _, _, _, _, rfl, BZ.out.trans (t9.below (by omega)), HS.out⟩
    have hz : ¬ (4096 : Int) < (X.size : Int) := by omega
    have HS : Hid (Says (ownV ⟨2, nn, num, t, na⟩ []) 2 false 0 X 0) := by
      have : ownV ⟨2, nn, num, t, na⟩ [] = .ok (.text t) := by
        show textE t = _
        unfold textE
        rw [if_pos (by omega)]
      rw [this, ← hX]
      exact ⟨rfl, rfl, rfl, rfl, rfl⟩
    clear hM hX hXs hm hl
    go_enter Tryd.func34, Tryd.ntmps34
    go_wp2_with (refine wpList_store_cb rfl 51 (.tmp 2) (.tmp 22) rfl (w.heap.size + 1) _ #[.int .i64 2, .bool false, .int .u64 0, .string X] rfl rfl kz1.out rfl (by kernel_rfl) (by kernel_rfl) ?_; intro w9 k9 t9)
    exact bodyPost_ret (v := .tuple #[.agg #[.int .i64 2, .bool false, .int .u64 0, .string X], .int .i64 0]) (results_cv rfl _ _ _ _ _ rfl rfl k9 Tryd.underlying51 rfl (by kernel_rfl)) rfl ⟨_, _, _, _, _, rfl, BZ.out.trans (t9.below (by omega)), HS.out⟩
  · subst ho
    have HS : Hid (Says (ownV ⟨3, nn, num, t, na⟩ []) 3 false 1 ⟨#[]⟩ 0) := ⟨rfl, rfl, rfl, rfl, rfl⟩
    clear hM hX hXs hm
    go_enter Tryd.func34, Tryd.ntmps34
    go_wp2_with (refine wpList_store_cb rfl 51 (.tmp 2) (.tmp 25) rfl (w.heap.size + 1) _ #[.int .i64 3, .bool false, .int .u64 1, .string ⟨#[]⟩] rfl rfl kz1.out rfl (by kernel_rfl) (by kernel_rfl) ?_; intro w9 k9 t9)
    exact bodyPost_ret (v := .tuple #[.agg #[.int .i64 3, .bool false, .int .u64 1, .string ⟨#[]⟩], .int .i64 0]) (results_cv rfl _ _ _ _ _ rfl rfl k9 Tryd.underlying51 rfl (by kernel_rfl)) rfl ⟨_, _, _, _, _, rfl, BZ.out.trans (t9.below (by omega)), HS.out⟩
  · subst ho
    have HS : Hid (Says (ownV ⟨4, nn, num, t, na⟩ []) 3 false 0 ⟨#[]⟩ 0) := ⟨rfl, rfl, rfl, rfl, rfl⟩
    clear hM hX hXs hm
    go_enter Tryd.func34, Tryd.ntmps34
    go_wp2_with (refine wpList_store_cb rfl 51 (.tmp 2) (.tmp 26) rfl (w.heap.size + 1) _ #[.int .i64 3, .bool false, .int .u64 0, .string ⟨#[]⟩] rfl rfl kz1.out rfl (by kernel_rfl) (by kernel_rfl) ?_; intro w9 k9 t9)
    exact bodyPost_ret (v := .tuple #[.agg #[.int .i64 3, .bool false, .int .u64 0, .string ⟨#[]⟩], .int .i64 0]) (results_cv rfl _ _ _ _ _ rfl rfl k9 Tryd.underlying51 rfl (by kernel_rfl)) rfl ⟨_, _, _, _, _, rfl, BZ.out.trans (t9.below (by omega)), HS.out⟩
set_option maxRecDepth 100000 in
set_option maxHeartbeats 4000000 in
theorem rrepd_any (w : World) (s : List UInt8) (v : Int) (hs : s.length ≤ 140737488355328) (hv : -18446744073709551616 < v ∧ v < 18446744073709551616) : Calls Tryd.prog 38 #[.agg #[.int .i64 2, .bool false, .int .u64 0, .string (str s)], .agg #[.int .i64 1, .bool (decide (v < 0)), .int .u64 (v.natAbs : Nat), .string ⟨#[]⟩]] w (RAt (repE' s v) w) := by
  obtain ⟨M, hM⟩ : ∃ M : Int, (v.natAbs : Int) = M := ⟨_, rfl⟩
  obtain ⟨X, hX⟩ : ∃ X, str s = X := ⟨_, rfl⟩
  have hXs : X.size = s.length := by rw [← hX, str_size]
  rw [hM, hX]
  by_cases hn : v < 0
  case pos =>
    rw [show decide (v < 0) = true by simp; omega]
    obtain ⟨wz, hww⟩ : ∃ W : World, ((w.alloc (.cells #[.int .i64 2, .bool false, .int .u64 0, .string X] 51)).alloc (.cells #[.int .i64 1, .bool true, .int .u64 M, .string ⟨#[]⟩] 51)).alloc (.cells #[.int .i64 0, .bool false, .int .u64 0, .string ⟨#[]⟩] 51) = W := ⟨_, rfl⟩
    have BZ : Hid (Below w.heap.size w wz) := by
      rw [← hww]
      exact ((((Below.refl _ w).alloc (Nat.le_refl _) _).alloc (by simp) _).alloc (by simp; omega) _)
    have kz0 : Hid (CB wz (w.heap.size) 51 #[.int .i64 2, .bool false, .int .u64 0, .string X]) := by
      rw [← hww]
      have h := CB.new w 51 #[.int .i64 2, .bool false, .int .u64 0, .string X]
      have h : CB (w.alloc (.cells #[.int .i64 2, .bool false, .int .u64 0, .string X] 51)) (w.heap.size) 51 #[.int .i64 2, .bool false, .int .u64 0, .string X] := by simpa using h
      exact ((h.below ((Below.refl _ _).alloc (Nat.le_refl _) _)).below ((Below.refl _ _).alloc (Nat.le_refl _) _))
    have kz1 : Hid (CB wz (w.heap.size + 1) 51 #[.int .i64 1, .bool true, .int .u64 M, .string ⟨#[]⟩]) := by
      rw [← hww]
      have h := CB.new (w.alloc (.cells #[.int .i64 2, .bool false, .int .u64 0, .string X] 51)) 51 #[.int .i64 1, .bool true, .int .u64 M, .string ⟨#[]⟩]
      have h : CB ((w.alloc (.cells #[.int .i64 2, .bool false, .int .u64 0, .string X] 51)).alloc (.cells #[.int .i64 1, .bool true, .int .u64 M, .string ⟨#[]⟩] 51)) (w.heap.size + 1) 51 #[.int .i64 1, .bool true, .int .u64 M, .string ⟨#[]⟩] := by simpa using h
      exact (h.below ((Below.refl _ _).alloc (Nat.le_refl _) _))
    have kz2 : Hid (CB wz (w.heap.size + 1 + 1) 51 #[.int .i64 0, .bool false, .int .u64 0, .string ⟨#[]⟩]) := by
      rw [← hww]
      have h := CB.new ((w.alloc (.cells #[.int .i64 2, .bool false, .int .u64 0, .string X] 51)).alloc (.cells #[.int .i64 1, .bool true, .int .u64 M, .string ⟨#[]⟩] 51)) 51 #[.int .i64 0, .bool false, .int .u64 0, .string ⟨#[]⟩]
      have h : CB (((w.alloc (.cells #[.int .i64 2, .bool false, .int .u64 0, .string X] 51)).alloc (.cells #[.int .i64 1, .bool true, .int .u64 M, .string ⟨#[]⟩] 51)).alloc (.cells #[.int .i64 0, .bool false, .int .u64 0, .string ⟨#[]⟩] 51)) (w.heap.size + 1 + 1) 51 #[.int .i64 0, .bool false, .int .u64 0, .string ⟨#[]⟩] := by simpa using h
      exact h
    have c11 : wz.cell? ⟨w.heap.size + 1, 1, none⟩ = some (.bool true) := CB.at_ kz1.out 1
    have HS : Hid (Says (repE' s v) 0 false 0 ⟨#[]⟩ 111) := by
      unfold Hid repE'
      rw [if_pos hn]
      exact says_err (e := 111) (by decide) rfl
    clear hM hX hXs hv hn hs
    go_enter Tryd.func38, Tryd.ntmps38
    go_wp2_with (refine wpList_store_cb rfl 51 (.tmp 4) (.tmp 10) rfl (w.heap.size + 1 + 1) _ #[.int .i64 0, .bool false, .int .u64 0, .string ⟨#[]⟩] rfl rfl kz2.out rfl (by kernel_rfl) (by kernel_rfl) ?_; intro w9 k9 t9)
    exact bodyPost_ret (v := .tuple #[.agg #[.int .i64 0, .bool false, .int .u64 0, .string ⟨#[]⟩], .int .i64 111]) (results_cv rfl _ _ _ _ _ rfl rfl k9 Tryd.underlying51 rfl (by kernel_rfl)) rfl ⟨_, _, _, _, _, rfl, BZ.out.trans (t9.below (by omega)), HS.out⟩
  rw [show decide (v < 0) = false by simp; omega]
  obtain ⟨wz, hww⟩ : ∃ W : World, ((w.alloc (.cells #[.int .i64 2, .bool false, .int .u64 0, .string X] 51)).alloc (.cells #[.int .i64 1, .bool false, .int .u64 M, .string ⟨#[]⟩] 51)).alloc (.cells #[.int .i64 0, .bool false, .int .u64 0, .string ⟨#[]⟩] 51) = W := ⟨_, rfl⟩
  have BZ : Hid (Below w.heap.size w wz) := by
    rw [← hww]
    exact ((((Below.refl _ w).alloc (Nat.le_refl _) _).alloc (by simp) _).alloc (by simp; omega) _)
  have kz0 : Hid (CB wz (w.heap.size) 51 #[.int .i64 2, .bool false, .int .u64 0, .string X]) := by
    rw [← hww]
    have h := CB.new w 51 #[.int .i64 2, .bool false, .int .u64 0, .string X]
    have h : CB (w.alloc (.cells #[.int .i64 2, .bool false, .int .u64 0, .string X] 51)) (w.heap.size) 51 #[.int .i64 2, .bool false, .int .u64 0, .string X] := by simpa using h
    exact ((h.below ((Below.refl _ _).alloc (Nat.le_refl _) _)).below ((Below.refl _ _).alloc (Nat.le_refl _) _))
  have kz1 : Hid (CB wz (w.heap.size + 1) 51 #[.int .i64 1, .bool false, .int .u64 M, .string ⟨#[]⟩]) := by
    rw [← hww]
    have h := CB.new (w.alloc (.cells #[.int .i64 2, .bool false, .int .u64 0, .string X] 51)) 51 #[.int .i64 1, .bool false, .int .u64 M, .string ⟨#[]⟩]
    have h : CB ((w.alloc (.cells #[.int .i64 2, .bool false, .int .u64 0, .string X] 51)).alloc (.cells #[.int .i64 1, .bool false, .int .u64 M, .string ⟨#[]⟩] 51)) (w.heap.size + 1) 51 #[.int .i64 1, .bool false, .int .u64 M, .string ⟨#[]⟩] := by simpa using h
    exact (h.below ((Below.refl _ _).alloc (Nat.le_refl _) _))
  have kz2 : Hid (CB wz (w.heap.size + 1 + 1) 51 #[.int .i64 0, .bool false, .int .u64 0, .string ⟨#[]⟩]) := by
    rw [← hww]
    have h := CB.new ((w.alloc (.cells #[.int .i64 2, .bool false, .int .u64 0, .string X] 51)).alloc (.cells #[.int .i64 1, .bool false, .int .u64 M, .string ⟨#[]⟩] 51)) 51 #[.int .i64 0, .bool false, .int .u64 0, .string ⟨#[]⟩]
    have h : CB (((w.alloc (.cells #[.int .i64 2, .bool false, .int .u64 0, .string X] 51)).alloc (.cells #[.int .i64 1, .bool false, .int .u64 M, .string ⟨#[]⟩] 51)).alloc (.cells #[.int .i64 0, .bool false, .int .u64 0, .string ⟨#[]⟩] 51)) (w.heap.size + 1 + 1) 51 #[.int .i64 0, .bool false, .int .u64 0, .string ⟨#[]⟩] := by simpa using h
    exact h
  have c03 : wz.cell? ⟨w.heap.size, 3, none⟩ = some (.string X) := CB.at_ kz0.out 3
  have c11 : wz.cell? ⟨w.heap.size + 1, 1, none⟩ = some (.bool false) := CB.at_ kz1.out 1
  have c12 : wz.cell? ⟨w.heap.size + 1, 2, none⟩ = some (.int .u64 M) := CB.at_ kz1.out 2
  have hMn : M = (v.toNat : Int) := by omega
  have hrep : ∀ W, Calls Tryd.prog 64 #[.string X, .int .u64 M] W fun e w' => e = .returned (.tuple #[.string (repT X v.toNat), .int .i64 (repE X v.toNat)]) ∧ Below W.heap.size W w' := fun W => by
    rw [hMn]
    exact rrep_any X v.toNat (by omega) (by omega)
  have HR := Lib.hid hrep
  have HS : Hid (Says (repE' s v) 2 false 0 (repT X v.toNat) (repE X v.toNat)) := by
    unfold Hid repE' repT repE
    rw [if_neg hn, hXs]
    by_cases hl : v.toNat * s.length ≤ 4096
    · rw [if_pos hl, if_pos hl, if_pos hl]
      refine ⟨rfl, rfl, rfl, rfl, ?_⟩
      show rp X v.toNat = str (timesL s v.toNat)
      rw [← hX]
      exact rp_times s v.toNat
    · rw [if_neg hl, if_neg hl, if_neg hl]
      exact says_err (e := 2) (by decide) rfl
  obtain ⟨RT, hRT⟩ : ∃ r, repT X v.toNat = r := ⟨_, rfl⟩
  obtain ⟨RE, hRE⟩ : ∃ r, repE X v.toNat = r := ⟨_, rfl⟩
  rw [hRT, hRE] at HR HS
  clear hM hX hXs hv hn hs hrep hMn hRT hRE
  go_enter Tryd.func38, Tryd.ntmps38
  go_wp2_with fail
  refine (HR.out _).mono ?_
  rintro e w4 ⟨rfl, b4⟩
  have k4 := Lib.hid (kz2.out.below b4)
  have B4 := Lib.hid (BZ.out.trans (b4.mono BZ.out.size))
  clear b4
  go_wp2_with (refine wpList_store_cb rfl 51 (.tmp 4) (.tmp 20) rfl (w.heap.size + 1 + 1) _ #[.int .i64 2, .bool false, .int .u64 0, .string RT] rfl rfl k4.out rfl (by kernel_rfl) (by kernel_rfl) ?_; intro w9 k9 t9)
  exact bodyPost_ret (v := .tuple #[.agg #[.int .i64 2, .bool false, .int .u64 0, .string RT], .int .i64 RE]) (results_cv rfl _ _ _ _ _ rfl rfl k9 Tryd.underlying51 rfl (by kernel_rfl)) rfl ⟨_, _, _, _, _, rfl, B4.out.trans (t9.below (by omega)), HS.out⟩
/-- a thing that may be one -/
def ThOk (t : Th) : Prop := match t with
  | .num v => -18446744073709551616 < v ∧ v < 18446744073709551616
  | .text s => s.length ≤ 140737488355328
  | .bytes s => s.length ≤ 140737488355328
  | _ => True
def thR (t : Th) : Array Value := #[.int .i64 (isR t), .bool (ngR t), .int .u64 (mgR t), .string (txR t)]
set_option maxRecDepth 100000 in
set_option maxHeartbeats 8000000 in
theorem rone_any (w : World) (x : Rn) (t : Th) (ho : x.op = 5 ∨ x.op = 11 ∨ x.op = 12) (ht : ThOk t) : Calls Tryd.prog 37 #[.int .i64 x.op, .agg (thR t)] w (RAt (ownV x [t]) w) := by
  obtain ⟨op, nn, num, tx, na⟩ := x
  dsimp only at ho ⊢
  cases t with
  | num v =>
    obtain ⟨M, hM⟩ : ∃ M : Int, (v.natAbs : Int) = M := ⟨_, rfl⟩
    show Calls _ _ #[_, .agg #[.int .i64 1, .bool (decide (v < 0)), .int .u64 (v.natAbs : Nat), .string ⟨#[]⟩]] _ _
    rw [hM]
    obtain ⟨wz, hww⟩ : ∃ W : World, (w.alloc (.cells #[.int .i64 1, .bool (decide (v < 0)), .int .u64 M, .string ⟨#[]⟩] 51)).alloc (.cells #[.int .i64 0, .bool false, .int .u64 0, .string ⟨#[]⟩] 51) = W := ⟨_, rfl⟩
    have BZ : Hid (Below w.heap.size w wz) := by
      rw [← hww]
      exact (((Below.refl _ w).alloc (Nat.le_refl _) _).alloc (by simp) _)
    have kz0 : Hid (CB wz (w.heap.size) 51 #[.int .i64 1, .bool (decide (v < 0)), .int .u64 M, .string ⟨#[]⟩]) := by
      rw [← hww]
      have h := CB.new w 51 #[.int .i64 1, .bool (decide (v < 0)), .int .u64 M, .string ⟨#[]⟩]
      have h : CB (w.alloc (.cells #[.int .i64 1, .bool (decide (v < 0)), .int .u64 M, .string ⟨#[]⟩] 51)) (w.heap.size) 51 #[.int .i64 1, .bool (decide (v < 0)), .int .u64 M, .string ⟨#[]⟩] := by simpa using h
      exact (h.below ((Below.refl _ _).alloc (Nat.le_refl _) _))
    have kz1 : Hid (CB wz (w.heap.size + 1) 51 #[.int .i64 0, .bool false, .int .u64 0, .string ⟨#[]⟩]) := by
      rw [← hww]
      have h := CB.new (w.alloc (.cells #[.int .i64 1, .bool (decide (v < 0)), .int .u64 M, .string ⟨#[]⟩] 51)) 51 #[.int .i64 0, .bool false, .int .u64 0, .string ⟨#[]⟩]
      have h : CB ((w.alloc (.cells #[.int .i64 1, .bool (decide (v < 0)), .int .u64 M, .string ⟨#[]⟩] 51)).alloc (.cells #[.int .i64 0, .bool false, .int .u64 0, .string ⟨#[]⟩] 51)) (w.heap.size + 1) 51 #[.int .i64 0, .bool false, .int .u64 0, .string ⟨#[]⟩] := by simpa using h
      exact h
    have c00 : wz.cell? ⟨w.heap.size, 0, none⟩ = some (.int .i64 1) := CB.at_ kz0.out 0
    have c01 : wz.cell? ⟨w.heap.size, 1, none⟩ = some (.bool (decide (v < 0))) := CB.at_ kz0.out 1
    have c02 : wz.cell? ⟨w.heap.size, 2, none⟩ = some (.int .u64 M) := CB.at_ kz0.out 2
    have c03 : wz.cell? ⟨w.heap.size, 3, none⟩ = some (.string ⟨#[]⟩) := CB.at_ kz0.out 3
    rcases ho with ho | ho | ho
    · subst ho
      have hv : v = v := rfl
      have hMn : ((-v).natAbs : Int) = M := by omega
      have ro := Lib.hid (fun W => ropp_any W v)
      rw [hM, hMn] at ro
      obtain ⟨g2, hg2⟩ : ∃ g, decide (-v < 0) = g := ⟨_, rfl⟩
      rw [hg2] at ro
      have h0 : 0 ≤ M := by omega
      have h1 : M < 18446744073709551616 := by have := ht.1; have := ht.2; omega
      have hsg : (if g2 = true then -M else M) = -v := by
        rw [← hg2]
        by_cases hq : -v < 0
        · rw [if_pos (decide_eq_true hq)]; omega
        · rw [if_neg (by rw [decide_eq_false hq]; decide)]; omega
      have hown : ownV ⟨5, nn, num, tx, na⟩ [.num v] = numE (if g2 = true then -M else M) := by rw [hsg]; rfl
      rw [hown]
      have RN := Lib.hid (fun W => rnum_any W g2 M h0 h1)
      obtain ⟨R, hR⟩ : ∃ R, numE (if g2 = true then -M else M) = R := ⟨_, rfl⟩
      rw [hR] at RN ⊢
      clear hv hMn hM ht hg2 hsg hown hR h0 h1
      go_enter Tryd.func37, Tryd.ntmps37
      go_wp2_with fail
      refine (ro.out _).mono ?_
      rintro e w4 ⟨rfl, b4⟩
      have k0 := Lib.hid (kz0.out.below b4)
      have k1 := Lib.hid (kz1.out.below b4)
      have B4 := Lib.hid (BZ.out.trans (b4.mono BZ.out.size))
      clear b4 ro
      go_wp2_with (refine wpList_store_cb rfl 51 (.tmp 3) (.tmp 17) rfl (w.heap.size) _ #[.int .i64 1, .bool g2, .int .u64 M, .string ⟨#[]⟩] rfl rfl k0.out rfl (by kernel_rfl) (by kernel_rfl) ?_; intro w5 k5 t5; have d1 : w5.cell? ⟨w.heap.size, 1, none⟩ = some (.bool g2) := CB.at_ k5 1; have d2 : w5.cell? ⟨w.heap.size, 2, none⟩ = some (.int .u64 M) := CB.at_ k5 2; have K5 : Hid (CB w5 (w.heap.size + 1) 51 #[.int .i64 0, .bool false, .int .u64 0, .string ⟨#[]⟩]) := (t5.others _ (by omega)).trans k1.out; have B5 : Hid (Below w.heap.size w w5) := B4.out.trans (t5.below (Nat.le_refl _)); clear k5 t5 k0 k1)
      refine (RN.out _).mono ?_
      rintro e w6 ⟨i4, g4, m4, s4, x4, rfl, b6, hs4⟩
      have k4 := Lib.hid (K5.out.below b6)
      have HS4 := Lib.hid hs4
      have B6 := Lib.hid (B5.out.trans (b6.mono B5.out.size))
      clear b6 hs4
      go_wp2_with (refine wpList_store_cb rfl 51 (.tmp 4) (.tmp 23) rfl (w.heap.size + 1) _ #[.int .i64 i4, .bool g4, .int .u64 m4, .string s4] rfl rfl k4.out rfl (by kernel_rfl) (by kernel_rfl) ?_; intro w9 k9 t9)
      exact bodyPost_ret (v := .tuple #[.agg #[.int .i64 i4, .bool g4, .int .u64 m4, .string s4], .int .i64 x4]) (results_cv rfl _ _ _ _ _ rfl rfl k9 Tryd.underlying51 rfl (by kernel_rfl)) rfl ⟨_, _, _, _, _, rfl, B6.out.trans (t9.below (by omega)), HS4.out⟩
    · subst ho
      have HS : Hid (Says (ownV ⟨11, nn, num, tx, na⟩ [.num v]) 0 false 0 ⟨#[]⟩ 110) := by
        have : ownV ⟨11, nn, num, tx, na⟩ [.num v] = .error 110 := rfl
        rw [this]
        exact says_err (e := 110) (by decide) rfl
      obtain ⟨R, hR⟩ : ∃ R, ownV ⟨11, nn, num, tx, na⟩ [.num v] = R := ⟨_, rfl⟩
      rw [hR] at HS ⊢
      clear hR
      clear hM ht
      go_enter Tryd.func37, Tryd.ntmps37
      go_upto_region 9 with fail
      go_wp2_with (refine wpList_store_cb rfl 51 (.tmp 4) (.tmp 62) rfl (w.heap.size + 1) _ #[.int .i64 0, .bool false, .int .u64 0, .string ⟨#[]⟩] rfl rfl kz1.out rfl (by kernel_rfl) (by kernel_rfl) ?_; intro w9 k9 t9)
      exact bodyPost_ret (v := .tuple #[.agg #[.int .i64 0, .bool false, .int .u64 0, .string ⟨#[]⟩], .int .i64 110]) (results_cv rfl _ _ _ _ _ rfl rfl k9 Tryd.underlying51 rfl (by kernel_rfl)) rfl ⟨_, _, _, _, _, rfl, BZ.out.trans (t9.below (by omega)), HS.out⟩
    · subst ho
      have HS : Hid (Says (ownV ⟨12, nn, num, tx, na⟩ [.num v]) 0 false 0 ⟨#[]⟩ 110) := by
        have : ownV ⟨12, nn, num, tx, na⟩ [.num v] = .error 110 := rfl
        rw [this]
        exact says_err (e := 110) (by decide) rfl
      obtain ⟨R, hR⟩ : ∃ R, ownV ⟨12, nn, num, tx, na⟩ [.num v] = R := ⟨_, rfl⟩
      rw [hR] at HS ⊢
      clear hR
      clear hM ht
      go_enter Tryd.func37, Tryd.ntmps37
      go_upto_region 9 with fail
      go_wp2_with (refine wpList_store_cb rfl 51 (.tmp 4) (.tmp 62) rfl (w.heap.size + 1) _ #[.int .i64 0, .bool false, .int .u64 0, .string ⟨#[]⟩] rfl rfl kz1.out rfl (by kernel_rfl) (by kernel_rfl) ?_; intro w9 k9 t9)
      exact bodyPost_ret (v := .tuple #[.agg #[.int .i64 0, .bool false, .int .u64 0, .string ⟨#[]⟩], .int .i64 110]) (results_cv rfl _ _ _ _ _ rfl rfl k9 Tryd.underlying51 rfl (by kernel_rfl)) rfl ⟨_, _, _, _, _, rfl, BZ.out.trans (t9.below (by omega)), HS.out⟩
  | text s =>
    obtain ⟨X, hX⟩ : ∃ X, str s = X := ⟨_, rfl⟩
    have hXs : X.size = s.length := by rw [← hX, str_size]
    have hl : s.length ≤ 140737488355328 := ht
    show Calls _ _ #[_, .agg #[.int .i64 2, .bool false, .int .u64 0, .string (str s)]] _ _
    rw [hX]
    obtain ⟨wz, hww⟩ : ∃ W : World, (w.alloc (.cells #[.int .i64 2, .bool false, .int .u64 0, .string X] 51)).alloc (.cells #[.int .i64 0, .bool false, .int .u64 0, .string ⟨#[]⟩] 51) = W := ⟨_, rfl⟩
    have BZ : Hid (Below w.heap.size w wz) := by
      rw [← hww]
      exact (((Below.refl _ w).alloc (Nat.le_refl _) _).alloc (by simp) _)
    have kz0 : Hid (CB wz (w.heap.size) 51 #[.int .i64 2, .bool false, .int .u64 0, .string X]) := by
      rw [← hww]
      have h := CB.new w 51 #[.int .i64 2, .bool false, .int .u64 0, .string X]
      have h : CB (w.alloc (.cells #[.int .i64 2, .bool false, .int .u64 0, .string X] 51)) (w.heap.size) 51 #[.int .i64 2, .bool false, .int .u64 0, .string X] := by simpa using h
      exact (h.below ((Below.refl _ _).alloc (Nat.le_refl _) _))
    have kz1 : Hid (CB wz (w.heap.size + 1) 51 #[.int .i64 0, .bool false, .int .u64 0, .string ⟨#[]⟩]) := by
      rw [← hww]
      have h := CB.new (w.alloc (.cells #[.int .i64 2, .bool false, .int .u64 0, .string X] 51)) 51 #[.int .i64 0, .bool false, .int .u64 0, .string ⟨#[]⟩]
      have h : CB ((w.alloc (.cells #[.int .i64 2, .bool false, .int .u64 0, .string X] 51)).alloc (.cells #[.int .i64 0, .bool false, .int .u64 0, .string ⟨#[]⟩] 51)) (w.heap.size + 1) 51 #[.int .i64 0, .bool false, .int .u64 0, .string ⟨#[]⟩] := by simpa using h
      exact h
    have c00 : wz.cell? ⟨w.heap.size, 0, none⟩ = some (.int .i64 2) := CB.at_ kz0.out 0
    have c01 : wz.cell? ⟨w.heap.size, 1, none⟩ = some (.bool false) := CB.at_ kz0.out 1
    have c02 : wz.cell? ⟨w.heap.size, 2, none⟩ = some (.int .u64 0) := CB.at_ kz0.out 2
    have c03 : wz.cell? ⟨w.heap.size, 3, none⟩ = some (.string X) := CB.at_ kz0.out 3
    rcases ho with ho | ho | ho
    · subst ho
      have HS : Hid (Says (ownV ⟨5, nn, num, tx, na⟩ [.text s]) 0 false 0 ⟨#[]⟩ 110) := by
        have : ownV ⟨5, nn, num, tx, na⟩ [.text s] = .error 110 := rfl
        rw [this]
        exact says_err (e := 110) (by decide) rfl
      obtain ⟨R, hR⟩ : ∃ R, ownV ⟨5, nn, num, tx, na⟩ [.text s] = R := ⟨_, rfl⟩
      rw [hR] at HS ⊢
      clear hR
      clear hX hXs hl ht
      go_enter Tryd.func37, Tryd.ntmps37
      go_upto_region 9 with fail
      go_wp2_with (refine wpList_store_cb rfl 51 (.tmp 4) (.tmp 62) rfl (w.heap.size + 1) _ #[.int .i64 0, .bool false, .int .u64 0, .string ⟨#[]⟩] rfl rfl kz1.out rfl (by kernel_rfl) (by kernel_rfl) ?_; intro w9 k9 t9)
      exact bodyPost_ret (v := .tuple #[.agg #[.int .i64 0, .bool false, .int .u64 0, .string ⟨#[]⟩], .int .i64 110]) (results_cv rfl _ _ _ _ _ rfl rfl k9 Tryd.underlying51 rfl (by kernel_rfl)) rfl ⟨_, _, _, _, _, rfl, BZ.out.trans (t9.below (by omega)), HS.out⟩
    · subst ho
      have hnum : numE (X.size : Int) = .ok (.num s.length) := by
        rw [hXs]
        unfold numE
        rw [if_pos (by omega)]
      have hv : ownV ⟨11, nn, num, tx, na⟩ [.text s] = numE (X.size : Int) := by rw [hnum]; rfl
      rw [hv]
      have h0 : (0 : Int) ≤ (X.size : Int) := by omega
      have h1 : (X.size : Int) < 18446744073709551616 := by omega
      have hw : IntKind.u64.wrap (X.size : Int) = (X.size : Int) := by show (X.size : Int) % 18446744073709551616 = _; omega
      obtain ⟨SZ, hSZ⟩ : ∃ z : Int, (X.size : Int) = z := ⟨_, rfl⟩
      have RN := Lib.hid (fun W => rnum_any W false (X.size : Int) h0 h1)
      obtain ⟨R, hR⟩ : ∃ R, numE (X.size : Int) = R := ⟨_, rfl⟩
      have RN : Hid (∀ W, Calls Tryd.prog 61 #[.bool false, .int .u64 (X.size : Int)] W (RAt R W)) := by rw [← hR]; exact RN.out
      rw [hR]
      clear hX hXs hl ht hnum hv h0 h1 hSZ hR
      go_enter Tryd.func37, Tryd.ntmps37
      go_wp2_with fail
      refine (RN.out _).mono ?_
      rintro e w4 ⟨i4, g4, m4, s4, x4, rfl, b4, hs4⟩
      have k4 := Lib.hid (kz1.out.below b4)
      have HS4 := Lib.hid hs4
      have B4 := Lib.hid (BZ.out.trans (b4.mono BZ.out.size))
      clear b4 hs4
      go_wp2_with (refine wpList_store_cb rfl 51 (.tmp 4) (.tmp 43) rfl (w.heap.size + 1) _ #[.int .i64 i4, .bool g4, .int .u64 m4, .string s4] rfl rfl k4.out rfl (by kernel_rfl) (by kernel_rfl) ?_; intro w9 k9 t9)
      exact bodyPost_ret (v := .tuple #[.agg #[.int .i64 i4, .bool g4, .int .u64 m4, .string s4], .int .i64 x4]) (results_cv rfl _ _ _ _ _ rfl rfl k9 Tryd.underlying51 rfl (by kernel_rfl)) rfl ⟨_, _, _, _, _, rfl, B4.out.trans (t9.below (by omega)), HS4.out⟩
    · subst ho
      have HR := Lib.hid (fun W => rhex_any (w := W) X (by omega))
      have HS : Hid (Says (ownV ⟨12, nn, num, tx, na⟩ [.text s]) 4 false 0 (hexT X) (hexE X)) := by
        have : ownV ⟨12, nn, num, tx, na⟩ [.text s] = hexE' s := rfl
        rw [this]
        unfold Hid hexE' hexT hexE
        rw [← hX, ls_str]
        cases hexL s with
        | none => exact says_err (e := 111) (by decide) rfl
        | some t => exact ⟨rfl, rfl, rfl, rfl, rfl⟩
      obtain ⟨R, hR⟩ : ∃ R, ownV ⟨12, nn, num, tx, na⟩ [.text s] = R := ⟨_, rfl⟩
      rw [hR] at HS ⊢
      clear hR
      obtain ⟨RT, hRT⟩ : ∃ r, hexT X = r := ⟨_, rfl⟩
      obtain ⟨RE, hRE⟩ : ∃ r, hexE X = r := ⟨_, rfl⟩
      rw [hRT, hRE] at HR HS
      clear hX hXs hl ht hRT hRE
      go_enter Tryd.func37, Tryd.ntmps37
      go_wp2_with fail
      refine (HR.out _).mono ?_
      rintro e w4 ⟨rfl, b4⟩
      have k4 := Lib.hid (kz1.out.below b4)
      have B4 := Lib.hid (BZ.out.trans (b4.mono BZ.out.size))
      clear b4
      go_wp2_with (refine wpList_store_cb rfl 51 (.tmp 4) (.tmp 60) rfl (w.heap.size + 1) _ #[.int .i64 4, .bool false, .int .u64 0, .string RT] rfl rfl k4.out rfl (by kernel_rfl) (by kernel_rfl) ?_; intro w9 k9 t9)
      exact bodyPost_ret (v := .tuple #[.agg #[.int .i64 4, .bool false, .int .u64 0, .string RT], .int .i64 RE]) (results_cv rfl _ _ _ _ _ rfl rfl k9 Tryd.underlying51 rfl (by kernel_rfl)) rfl ⟨_, _, _, _, _, rfl, B4.out.trans (t9.below (by omega)), HS.out⟩
  | truth b =>
    obtain ⟨M, hM⟩ : ∃ M : Int, (if b then 1 else 0) = M := ⟨_, rfl⟩
    show Calls _ _ #[_, .agg #[.int .i64 3, .bool false, .int .u64 (if b then 1 else 0), .string ⟨#[]⟩]] _ _
    rw [hM]
    obtain ⟨wz, hww⟩ : ∃ W : World, (w.alloc (.cells #[.int .i64 3, .bool false, .int .u64 M, .string ⟨#[]⟩] 51)).alloc (.cells #[.int .i64 0, .bool false, .int .u64 0, .string ⟨#[]⟩] 51) = W := ⟨_, rfl⟩
    have BZ : Hid (Below w.heap.size w wz) := by
      rw [← hww]
      exact (((Below.refl _ w).alloc (Nat.le_refl _) _).alloc (by simp) _)
    have kz0 : Hid (CB wz (w.heap.size) 51 #[.int .i64 3, .bool false, .int .u64 M, .string ⟨#[]⟩]) := by
      rw [← hww]
      have h := CB.new w 51 #[.int .i64 3, .bool false, .int .u64 M, .string ⟨#[]⟩]
      have h : CB (w.alloc (.cells #[.int .i64 3, .bool false, .int .u64 M, .string ⟨#[]⟩] 51)) (w.heap.size) 51 #[.int .i64 3, .bool false, .int .u64 M, .string ⟨#[]⟩] := by simpa using h
      exact (h.below ((Below.refl _ _).alloc (Nat.le_refl _) _))
    have kz1 : Hid (CB wz (w.heap.size + 1) 51 #[.int .i64 0, .bool false, .int .u64 0, .string ⟨#[]⟩]) := by
      rw [← hww]
      have h := CB.new (w.alloc (.cells #[.int .i64 3, .bool false, .int .u64 M, .string ⟨#[]⟩] 51)) 51 #[.int .i64 0, .bool false, .int .u64 0, .string ⟨#[]⟩]
      have h : CB ((w.alloc (.cells #[.int .i64 3, .bool false, .int .u64 M, .string ⟨#[]⟩] 51)).alloc (.cells #[.int .i64 0, .bool false, .int .u64 0, .string ⟨#[]⟩] 51)) (w.heap.size + 1) 51 #[.int .i64 0, .bool false, .int .u64 0, .string ⟨#[]⟩] := by simpa using h
      exact h
    have c00 : wz.cell? ⟨w.heap.size, 0, none⟩ = some (.int .i64 3) := CB.at_ kz0.out 0
    have c01 : wz.cell? ⟨w.heap.size, 1, none⟩ = some (.bool false) := CB.at_ kz0.out 1
    have c02 : wz.cell? ⟨w.heap.size, 2, none⟩ = some (.int .u64 M) := CB.at_ kz0.out 2
    have c03 : wz.cell? ⟨w.heap.size, 3, none⟩ = some (.string ⟨#[]⟩) := CB.at_ kz0.out 3
    rcases ho with ho | ho | ho
    · subst ho
      have HS : Hid (Says (ownV ⟨5, nn, num, tx, na⟩ [.truth b]) 0 false 0 ⟨#[]⟩ 110) := by
        have : ownV ⟨5, nn, num, tx, na⟩ [.truth b] = .error 110 := rfl
        rw [this]
        exact says_err (e := 110) (by decide) rfl
      obtain ⟨R, hR⟩ : ∃ R, ownV ⟨5, nn, num, tx, na⟩ [.truth b] = R := ⟨_, rfl⟩
      rw [hR] at HS ⊢
      clear hR
      clear hM ht
      go_enter Tryd.func37, Tryd.ntmps37
      go_upto_region 9 with fail
      go_wp2_with (refine wpList_store_cb rfl 51 (.tmp 4) (.tmp 62) rfl (w.heap.size + 1) _ #[.int .i64 0, .bool false, .int .u64 0, .string ⟨#[]⟩] rfl rfl kz1.out rfl (by kernel_rfl) (by kernel_rfl) ?_; intro w9 k9 t9)
      exact bodyPost_ret (v := .tuple #[.agg #[.int .i64 0, .bool false, .int .u64 0, .string ⟨#[]⟩], .int .i64 110]) (results_cv rfl _ _ _ _ _ rfl rfl k9 Tryd.underlying51 rfl (by kernel_rfl)) rfl ⟨_, _, _, _, _, rfl, BZ.out.trans (t9.below (by omega)), HS.out⟩
    · subst ho
      have HS : Hid (Says (ownV ⟨11, nn, num, tx, na⟩ [.truth b]) 0 false 0 ⟨#[]⟩ 110) := by
        have : ownV ⟨11, nn, num, tx, na⟩ [.truth b] = .error 110 := rfl
        rw [this]
        exact says_err (e := 110) (by decide) rfl
      obtain ⟨R, hR⟩ : ∃ R, ownV ⟨11, nn, num, tx, na⟩ [.truth b] = R := ⟨_, rfl⟩
      rw [hR] at HS ⊢
      clear hR
      clear hM ht
      go_enter Tryd.func37, Tryd.ntmps37
      go_upto_region 9 with fail
      go_wp2_with (refine wpList_store_cb rfl 51 (.tmp 4) (.tmp 62) rfl (w.heap.size + 1) _ #[.int .i64 0, .bool false, .int .u64 0, .string ⟨#[]⟩] rfl rfl kz1.out rfl (by kernel_rfl) (by kernel_rfl) ?_; intro w9 k9 t9)
      exact bodyPost_ret (v := .tuple #[.agg #[.int .i64 0, .bool false, .int .u64 0, .string ⟨#[]⟩], .int .i64 110]) (results_cv rfl _ _ _ _ _ rfl rfl k9 Tryd.underlying51 rfl (by kernel_rfl)) rfl ⟨_, _, _, _, _, rfl, BZ.out.trans (t9.below (by omega)), HS.out⟩
    · subst ho
      have HS : Hid (Says (ownV ⟨12, nn, num, tx, na⟩ [.truth b]) 0 false 0 ⟨#[]⟩ 110) := by
        have : ownV ⟨12, nn, num, tx, na⟩ [.truth b] = .error 110 := rfl
        rw [this]
        exact says_err (e := 110) (by decide) rfl
      obtain ⟨R, hR⟩ : ∃ R, ownV ⟨12, nn, num, tx, na⟩ [.truth b] = R := ⟨_, rfl⟩
      rw [hR] at HS ⊢
      clear hR
      clear hM ht
      go_enter Tryd.func37, Tryd.ntmps37
      go_upto_region 9 with fail
      go_wp2_with (refine wpList_store_cb rfl 51 (.tmp 4) (.tmp 62) rfl (w.heap.size + 1) _ #[.int .i64 0, .bool false, .int .u64 0, .string ⟨#[]⟩] rfl rfl kz1.out rfl (by kernel_rfl) (by kernel_rfl) ?_; intro w9 k9 t9)
      exact bodyPost_ret (v := .tuple #[.agg #[.int .i64 0, .bool false, .int .u64 0, .string ⟨#[]⟩], .int .i64 110]) (results_cv rfl _ _ _ _ _ rfl rfl k9 Tryd.underlying51 rfl (by kernel_rfl)) rfl ⟨_, _, _, _, _, rfl, BZ.out.trans (t9.below (by omega)), HS.out⟩
  | bytes s =>
    obtain ⟨X, hX⟩ : ∃ X, str s = X := ⟨_, rfl⟩
    have hXs : X.size = s.length := by rw [← hX, str_size]
    have hl : s.length ≤ 140737488355328 := ht
    show Calls _ _ #[_, .agg #[.int .i64 4, .bool false, .int .u64 0, .string (str s)]] _ _
    rw [hX]
    obtain ⟨wz, hww⟩ : ∃ W : World, (w.alloc (.cells #[.int .i64 4, .bool false, .int .u64 0, .string X] 51)).alloc (.cells #[.int .i64 0, .bool false, .int .u64 0, .string ⟨#[]⟩] 51) = W := ⟨_, rfl⟩
    have BZ : Hid (Below w.heap.size w wz) := by
      rw [← hww]
      exact (((Below.refl _ w).alloc (Nat.le_refl _) _).alloc (by simp) _)
    have kz0 : Hid (CB wz (w.heap.size) 51 #[.int .i64 4, .bool false, .int .u64 0, .string X]) := by
      rw [← hww]
      have h := CB.new w 51 #[.int .i64 4, .bool false, .int .u64 0, .string X]
      have h : CB (w.alloc (.cells #[.int .i64 4, .bool false, .int .u64 0, .string X] 51)) (w.heap.size) 51 #[.int .i64 4, .bool false, .int .u64 0, .string X] := by simpa using h
      exact (h.below ((Below.refl _ _).alloc (Nat.le_refl _) _))
    have kz1 : Hid (CB wz (w.heap.size + 1) 51 #[.int .i64 0, .bool false, .int .u64 0, .string ⟨#[]⟩]) := by
      rw [← hww]
      have h := CB.new (w.alloc (.cells #[.int .i64 4, .bool false, .int .u64 0, .string X] 51)) 51 #[.int .i64 0, .bool false, .int .u64 0, .string ⟨#[]⟩]
      have h : CB ((w.alloc (.cells #[.int .i64 4, .bool false, .int .u64 0, .string X] 51)).alloc (.cells #[.int .i64 0, .bool false, .int .u64 0, .string ⟨#[]⟩] 51)) (w.heap.size + 1) 51 #[.int .i64 0, .bool false, .int .u64 0, .string ⟨#[]⟩] := by simpa using h
      exact h
    have c00 : wz.cell? ⟨w.heap.size, 0, none⟩ = some (.int .i64 4) := CB.at_ kz0.out 0
    have c01 : wz.cell? ⟨w.heap.size, 1, none⟩ = some (.bool false) := CB.at_ kz0.out 1
    have c02 : wz.cell? ⟨w.heap.size, 2, none⟩ = some (.int .u64 0) := CB.at_ kz0.out 2
    have c03 : wz.cell? ⟨w.heap.size, 3, none⟩ = some (.string X) := CB.at_ kz0.out 3
    rcases ho with ho | ho | ho
    · subst ho
      have HS : Hid (Says (ownV ⟨5, nn, num, tx, na⟩ [.bytes s]) 0 false 0 ⟨#[]⟩ 110) := by
        have : ownV ⟨5, nn, num, tx, na⟩ [.bytes s] = .error 110 := rfl
        rw [this]
        exact says_err (e := 110) (by decide) rfl
      obtain ⟨R, hR⟩ : ∃ R, ownV ⟨5, nn, num, tx, na⟩ [.bytes s] = R := ⟨_, rfl⟩
      rw [hR] at HS ⊢
      clear hR
      clear hX hXs hl ht
      go_enter Tryd.func37, Tryd.ntmps37
      go_upto_region 9 with fail
      go_wp2_with (refine wpList_store_cb rfl 51 (.tmp 4) (.tmp 62) rfl (w.heap.size + 1) _ #[.int .i64 0, .bool false, .int .u64 0, .string ⟨#[]⟩] rfl rfl kz1.out rfl (by kernel_rfl) (by kernel_rfl) ?_; intro w9 k9 t9)
      exact bodyPost_ret (v := .tuple #[.agg #[.int .i64 0, .bool false, .int .u64 0, .string ⟨#[]⟩], .int .i64 110]) (results_cv rfl _ _ _ _ _ rfl rfl k9 Tryd.underlying51 rfl (by kernel_rfl)) rfl ⟨_, _, _, _, _, rfl, BZ.out.trans (t9.below (by omega)), HS.out⟩
    · subst ho
      have hnum : numE (X.size : Int) = .ok (.num s.length) := by
        rw [hXs]
        unfold numE
        rw [if_pos (by omega)]
      have hv : ownV ⟨11, nn, num, tx, na⟩ [.bytes s] = numE (X.size : Int) := by rw [hnum]; rfl
      rw [hv]
      have h0 : (0 : Int) ≤ (X.size : Int) := by omega
      have h1 : (X.size : Int) < 18446744073709551616 := by omega
      have hw : IntKind.u64.wrap (X.size : Int) = (X.size : Int) := by show (X.size : Int) % 18446744073709551616 = _; omega
      obtain ⟨SZ, hSZ⟩ : ∃ z : Int, (X.size : Int) = z := ⟨_, rfl⟩
      have RN := Lib.hid (fun W => rnum_any W false (X.size : Int) h0 h1)
      obtain ⟨R, hR⟩ : ∃ R, numE (X.size : Int) = R := ⟨_, rfl⟩
      have RN : Hid (∀ W, Calls Tryd.prog 61 #[.bool false, .int .u64 (X.size : Int)] W (RAt R W)) := by rw [← hR]; exact RN.out
      rw [hR]
      clear hX hXs hl ht hnum hv h0 h1 hSZ hR
      go_enter Tryd.func37, Tryd.ntmps37
      go_wp2_with fail
      refine (RN.out _).mono ?_
      rintro e w4 ⟨i4, g4, m4, s4, x4, rfl, b4, hs4⟩
      have k4 := Lib.hid (kz1.out.below b4)
      have HS4 := Lib.hid hs4
      have B4 := Lib.hid (BZ.out.trans (b4.mono BZ.out.size))
      clear b4 hs4
      go_wp2_with (refine wpList_store_cb rfl 51 (.tmp 4) (.tmp 43) rfl (w.heap.size + 1) _ #[.int .i64 i4, .bool g4, .int .u64 m4, .string s4] rfl rfl k4.out rfl (by kernel_rfl) (by kernel_rfl) ?_; intro w9 k9 t9)
      exact bodyPost_ret (v := .tuple #[.agg #[.int .i64 i4, .bool g4, .int .u64 m4, .string s4], .int .i64 x4]) (results_cv rfl _ _ _ _ _ rfl rfl k9 Tryd.underlying51 rfl (by kernel_rfl)) rfl ⟨_, _, _, _, _, rfl, B4.out.trans (t9.below (by omega)), HS4.out⟩
    · subst ho
      have HS : Hid (Says (ownV ⟨12, nn, num, tx, na⟩ [.bytes s]) 0 false 0 ⟨#[]⟩ 110) := by
        have : ownV ⟨12, nn, num, tx, na⟩ [.bytes s] = .error 110 := rfl
        rw [this]
        exact says_err (e := 110) (by decide) rfl
      obtain ⟨R, hR⟩ : ∃ R, ownV ⟨12, nn, num, tx, na⟩ [.bytes s] = R := ⟨_, rfl⟩
      rw [hR] at HS ⊢
      clear hR
      clear hX hXs hl ht
      go_enter Tryd.func37, Tryd.ntmps37
      go_upto_region 9 with fail
      go_wp2_with (refine wpList_store_cb rfl 51 (.tmp 4) (.tmp 62) rfl (w.heap.size + 1) _ #[.int .i64 0, .bool false, .int .u64 0, .string ⟨#[]⟩] rfl rfl kz1.out rfl (by kernel_rfl) (by kernel_rfl) ?_; intro w9 k9 t9)
      exact bodyPost_ret (v := .tuple #[.agg #[.int .i64 0, .bool false, .int .u64 0, .string ⟨#[]⟩], .int .i64 110]) (results_cv rfl _ _ _ _ _ rfl rfl k9 Tryd.underlying51 rfl (by kernel_rfl)) rfl ⟨_, _, _, _, _, rfl, BZ.out.trans (t9.below (by omega)), HS.out⟩
end Go.Proofs.YtmbiompmhaiehaaDoor
/- The walk of the reference: what a node of two numbers stands for (gen_rreck.py). -/
namespace Go.Proofs.YtmbiompmhaiehaaDoor
open Go.RowKit

set_option maxRecDepth 100000 in
set_option maxHeartbeats 8000000 in
theorem rreck_any (w : World) (op : Int) (v u : Int) (ho : op = 6 ∨ op = 7 ∨ op = 8) (hv : -18446744073709551616 < v ∧ v < 18446744073709551616) (hu : -18446744073709551616 < u ∧ u < 18446744073709551616) : Calls Tryd.prog 39 #[.int .i64 op, .agg #[.int .i64 1, .bool (decide (v < 0)), .int .u64 (v.natAbs : Nat), .string ⟨#[]⟩], .agg #[.int .i64 1, .bool (decide (u < 0)), .int .u64 (u.natAbs : Nat), .string ⟨#[]⟩]] w (RAt (numE (arithV op v u)) w) := by
  obtain ⟨A, hA⟩ : ∃ A : Int, (v.natAbs : Int) = A := ⟨_, rfl⟩
  obtain ⟨B, hB⟩ : ∃ A : Int, (u.natAbs : Int) = A := ⟨_, rfl⟩
  obtain ⟨ga, hga⟩ : ∃ g, decide (v < 0) = g := ⟨_, rfl⟩
  obtain ⟨gb, hgb⟩ : ∃ g, decide (u < 0) = g := ⟨_, rfl⟩
  obtain ⟨gn, hgn⟩ : ∃ g, decide (-u < 0) = g := ⟨_, rfl⟩
  have hB2 : ((-u).natAbs : Int) = B := by omega
  have RP := Lib.hid (fun W => rplus_any W v u hv hu)
  have RM := Lib.hid (fun W => rplus_any W v (-u) hv (by omega))
  have RTm := Lib.hid (fun W => rtimes_any W v u hv hu)
  have RO := Lib.hid (fun W => ropp_any W u)
  rw [hA, hga] at RP RM RTm
  rw [hB, hgb] at RP RTm RO
  rw [hB2, hgn] at RM RO
  rw [hA, hB, hga, hgb]
  obtain ⟨wz, hww⟩ : ∃ W : World, ((w.alloc (.cells #[.int .i64 1, .bool ga, .int .u64 A, .string ⟨#[]⟩] 51)).alloc (.cells #[.int .i64 1, .bool gb, .int .u64 B, .string ⟨#[]⟩] 51)).alloc (.cells #[.int .i64 0, .bool false, .int .u64 0, .string ⟨#[]⟩] 51) = W := ⟨_, rfl⟩
  have BZ : Hid (Below w.heap.size w wz) := by
    rw [← hww]
    exact ((((Below.refl _ w).alloc (Nat.le_refl _) _).alloc (by simp) _).alloc (by simp; omega) _)
  have kz0 : Hid (CB wz (w.heap.size) 51 #[.int .i64 1, .bool ga, .int .u64 A, .string ⟨#[]⟩]) := by
    rw [← hww]
    have h := CB.new w 51 #[.int .i64 1, .bool ga, .int .u64 A, .string ⟨#[]⟩]
    have h : CB (w.alloc (.cells #[.int .i64 1, .bool ga, .int .u64 A, .string ⟨#[]⟩] 51)) (w.heap.size) 51 #[.int .i64 1, .bool ga, .int .u64 A, .string ⟨#[]⟩] := by simpa using h
    exact ((h.below ((Below.refl _ _).alloc (Nat.le_refl _) _)).below ((Below.refl _ _).alloc (Nat.le_refl _) _))
  have kz1 : Hid (CB wz (w.heap.size + 1) 51 #[.int .i64 1, .bool gb, .int .u64 B, .string ⟨#[]⟩]) := by
    rw [← hww]
    have h := CB.new (w.alloc (.cells #[.int .i64 1, .bool ga, .int .u64 A, .string ⟨#[]⟩] 51)) 51 #[.int .i64 1, .bool gb, .int .u64 B, .string ⟨#[]⟩]
    have h : CB ((w.alloc (.cells #[.int .i64 1, .bool ga, .int .u64 A, .string ⟨#[]⟩] 51)).alloc (.cells #[.int .i64 1, .bool gb, .int .u64 B, .string ⟨#[]⟩] 51)) (w.heap.size + 1) 51 #[.int .i64 1, .bool gb, .int .u64 B, .string ⟨#[]⟩] := by simpa using h
    exact (h.below ((Below.refl _ _).alloc (Nat.le_refl _) _))
  have kz2 : Hid (CB wz (w.heap.size + 1 + 1) 51 #[.int .i64 0, .bool false, .int .u64 0, .string ⟨#[]⟩]) := by
    rw [← hww]
    have h := CB.new ((w.alloc (.cells #[.int .i64 1, .bool ga, .int .u64 A, .string ⟨#[]⟩] 51)).alloc (.cells #[.int .i64 1, .bool gb, .int .u64 B, .string ⟨#[]⟩] 51)) 51 #[.int .i64 0, .bool false, .int .u64 0, .string ⟨#[]⟩]
    have h : CB (((w.alloc (.cells #[.int .i64 1, .bool ga, .int .u64 A, .string ⟨#[]⟩] 51)).alloc (.cells #[.int .i64 1, .bool gb, .int .u64 B, .string ⟨#[]⟩] 51)).alloc (.cells #[.int .i64 0, .bool false, .int .u64 0, .string ⟨#[]⟩] 51)) (w.heap.size + 1 + 1) 51 #[.int .i64 0, .bool false, .int .u64 0, .string ⟨#[]⟩] := by simpa using h
    exact h
  have c00 : wz.cell? ⟨w.heap.size, 0, none⟩ = some (.int .i64 1) := CB.at_ kz0.out 0
  have c01 : wz.cell? ⟨w.heap.size, 1, none⟩ = some (.bool ga) := CB.at_ kz0.out 1
  have c02 : wz.cell? ⟨w.heap.size, 2, none⟩ = some (.int .u64 A) := CB.at_ kz0.out 2
  have c03 : wz.cell? ⟨w.heap.size, 3, none⟩ = some (.string ⟨#[]⟩) := CB.at_ kz0.out 3
  have c10 : wz.cell? ⟨w.heap.size + 1, 0, none⟩ = some (.int .i64 1) := CB.at_ kz1.out 0
  have c11 : wz.cell? ⟨w.heap.size + 1, 1, none⟩ = some (.bool gb) := CB.at_ kz1.out 1
  have c12 : wz.cell? ⟨w.heap.size + 1, 2, none⟩ = some (.int .u64 B) := CB.at_ kz1.out 2
  have c13 : wz.cell? ⟨w.heap.size + 1, 3, none⟩ = some (.string ⟨#[]⟩) := CB.at_ kz1.out 3
  rcases ho with ho | ho | ho
  · subst ho
    have hv' : arithV 6 v u = v + u := by simp [arithV]
    rw [hv']
    clear hv'
    clear hA hB hga hgb hgn hB2 hv hu
    clear RM RTm RO
    go_enter Tryd.func39, Tryd.ntmps39
    go_wp2_with fail
    refine (RP.out _).mono ?_
    rintro e w4 ⟨i4, g4, m4, s4, x4, rfl, b4, hs4⟩
    have k4 := Lib.hid (kz2.out.below b4)
    have HS4 := Lib.hid hs4
    have B4 := Lib.hid (BZ.out.trans (b4.mono BZ.out.size))
    clear b4 hs4
    go_wp2_with (refine wpList_store_cb rfl 51 (.tmp 6) (.tmp 14) rfl (w.heap.size + 1 + 1) _ #[.int .i64 i4, .bool g4, .int .u64 m4, .string s4] rfl rfl k4.out rfl (by kernel_rfl) (by kernel_rfl) ?_; intro w9 k9 t9)
    exact bodyPost_ret (v := .tuple #[.agg #[.int .i64 i4, .bool g4, .int .u64 m4, .string s4], .int .i64 x4]) (results_cv rfl _ _ _ _ _ rfl rfl k9 Tryd.underlying51 rfl (by kernel_rfl)) rfl ⟨_, _, _, _, _, rfl, B4.out.trans (t9.below (by omega)), HS4.out⟩
  · subst ho
    have hv' : arithV 7 v u = v + -u := by simp [arithV]; omega
    rw [hv']
    clear hv'
    clear hA hB hga hgb hgn hB2 hv hu
    clear RP RTm
    have SX : Hid (∀ W, Below wz.heap.size wz W → W.cell? ⟨w.heap.size, 0, none⟩ = some (.int .i64 1) ∧ W.cell? ⟨w.heap.size, 1, none⟩ = some (.bool ga) ∧ W.cell? ⟨w.heap.size, 2, none⟩ = some (.int .u64 A) ∧ W.cell? ⟨w.heap.size, 3, none⟩ = some (.string ⟨#[]⟩) ∧ W.cell? ⟨w.heap.size + 1, 0, none⟩ = some (.int .i64 1) ∧ W.cell? ⟨w.heap.size + 1, 1, none⟩ = some (.bool gb) ∧ W.cell? ⟨w.heap.size + 1, 2, none⟩ = some (.int .u64 B) ∧ W.cell? ⟨w.heap.size + 1, 3, none⟩ = some (.string ⟨#[]⟩)) := fun W hW => by
      have k0 := kz0.out.below hW
      have k1 := kz1.out.below hW
      exact ⟨k0.at_ 0, k0.at_ 1, k0.at_ 2, k0.at_ 3, k1.at_ 0, k1.at_ 1, k1.at_ 2, k1.at_ 3⟩
    have hB1 : Below wz.heap.size wz wz.drew := Below.thenN (Below.refl _ _) 1
    go_enter Tryd.func39, Tryd.ntmps39
    go_upto_region 5 with fail
    obtain ⟨z0, z1, z2, z3, y0, y1, y2, y3⟩ := SX.out _ hB1
    go_region_with (first
      | (go_at_call 62; (refine (RO.out _).mono ?_); rintro e w2 ⟨rfl, hb2⟩; have hB2 : Below wz.heap.size wz w2 := Below.both hB1 hb2; obtain ⟨p0, p1, p2, p3, q0, q1, q2, q3⟩ := SX.out _ hB2)
      | (go_at_call 65; (refine (RM.out _).mono ?_); rintro e w3 ⟨i4, g4, m4, s4, x4, rfl, b4, hs4⟩; have hB3 : Below wz.heap.size wz w3 := Below.both hB2 b4; have k4 := Lib.hid (kz2.out.below hB3); have HS4 := Lib.hid hs4; have f0 : w3.cell? ⟨w.heap.size + 1 + 1, 0, none⟩ = some (.int .i64 0) := k4.out.at_ 0; have f1 : w3.cell? ⟨w.heap.size + 1 + 1, 1, none⟩ = some (.bool false) := k4.out.at_ 1; have f2 : w3.cell? ⟨w.heap.size + 1 + 1, 2, none⟩ = some (.int .u64 0) := k4.out.at_ 2; have f3 : w3.cell? ⟨w.heap.size + 1 + 1, 3, none⟩ = some (.string ⟨#[]⟩) := k4.out.at_ 3; have r0 := CB.frozen k4.out 0; have r1 := CB.frozen k4.out 1; have r2 := CB.frozen k4.out 2; have r3 := CB.frozen k4.out 3; clear hs4)
      | fail)
    all_goals
      go_wp2_with fail
    all_goals
      exact bodyPost_ret (v := .tuple #[.agg #[.int .i64 i4, .bool g4, .int .u64 m4, .string s4], .int .i64 x4]) (results_cv rfl _ _ _ _ _ rfl rfl (k4.out.store (cs := #[.int .i64 i4, .bool g4, .int .u64 m4, .string s4]) rfl) Tryd.underlying51 rfl (by kernel_rfl)) rfl ⟨_, _, _, _, _, rfl, (BZ.out.trans (hB3.mono BZ.out.size)).trans ((((((Turned.refl _ _).setCell 0 _).setCell 1 _).setCell 2 _).setCell 3 _).below (by omega)), HS4.out⟩
  · subst ho
    have hv' : arithV 8 v u = v * u := by simp [arithV]
    rw [hv']
    clear hv'
    clear hA hB hga hgb hgn hB2 hv hu
    clear RP RM RO
    go_enter Tryd.func39, Tryd.ntmps39
    go_wp2_with fail
    refine (RTm.out _).mono ?_
    rintro e w4 ⟨i4, g4, m4, s4, x4, rfl, b4, hs4⟩
    have k4 := Lib.hid (kz2.out.below b4)
    have HS4 := Lib.hid hs4
    have B4 := Lib.hid (BZ.out.trans (b4.mono BZ.out.size))
    clear b4 hs4
    go_wp2_with (refine wpList_store_cb rfl 51 (.tmp 6) (.tmp 27) rfl (w.heap.size + 1 + 1) _ #[.int .i64 i4, .bool g4, .int .u64 m4, .string s4] rfl rfl k4.out rfl (by kernel_rfl) (by kernel_rfl) ?_; intro w9 k9 t9)
    exact bodyPost_ret (v := .tuple #[.agg #[.int .i64 i4, .bool g4, .int .u64 m4, .string s4], .int .i64 x4]) (results_cv rfl _ _ _ _ _ rfl rfl k9 Tryd.underlying51 rfl (by kernel_rfl)) rfl ⟨_, _, _, _, _, rfl, B4.out.trans (t9.below (by omega)), HS4.out⟩
end Go.Proofs.YtmbiompmhaiehaaDoor
/- The walk of the reference: are these things of a kind? -/
namespace Go.Proofs.YtmbiompmhaiehaaDoor
open Go.RowKit

/-- things below block B -/
abbrev RT (w : World) (B : Nat) (A : Option Addr) (l : List Th) : Prop := Rows thR 4 w B A l
def allR (l : List Th) (k : Int) : Bool := l.all fun t => decide (isR t = k)
theorem isR_small (t : Th) : 1 ≤ isR t ∧ isR t ≤ 4 := by cases t <;> simp [isR]
theorem all_no {l : List Th} {k : Int} {i : Nat} {t : Th} (h : l[i]? = some t) (hk : isR t ≠ k) : allR l k = false := by
  unfold allR
  rw [List.all_eq_false]
  exact ⟨t, List.mem_of_getElem? h, by simp [hk]⟩
theorem all_step {l : List Th} {k : Int} {i : Nat} {t : Th} (h : l[i]? = some t) (hk : isR t = k) (hp : allR (l.take i) k = true) : allR (l.take (i + 1)) k = true := by
  have : l.take (i + 1) = l.take i ++ [t] := by
    obtain ⟨hi, hv⟩ := List.getElem?_eq_some_iff.1 h
    rw [List.take_succ_eq_append_getElem hi, hv]
  unfold allR at hp ⊢
  rw [this, List.all_append, hp]
  simp [hk]

set_option maxRecDepth 100000 in
set_option maxHeartbeats 4000000 in
theorem rall_any {w : World} {A : Option Addr} {c : Nat} {l : List Th} (hR : RT w w.heap.size A l) (hl : l.length ≤ 2932031007402) (k : Int) (hk : -9 ≤ k ∧ k ≤ 9) :
    Calls Tryd.prog 35 #[.slice A l.length c, .int .i64 k] w fun e w' => e = .returned (.bool (allR l k)) ∧ w = w' := by
  obtain ⟨n, hn⟩ : ∃ n, l.length = n := ⟨_, rfl⟩
  obtain ⟨r, hr⟩ : ∃ r, allR l k = r := ⟨_, rfl⟩
  have HN := Lib.hid hn
  have HR := Lib.hid hR
  have HV := Lib.hid hr
  rw [hn] at hl
  rw [hn, hr]
  clear hR hn hr
  go_enter Tryd.func35, Tryd.ntmps35
  go_wp2
  go_loopw [5] (fun v wr => ∃ i : Nat, v = .int .i64 i ∧ i ≤ n ∧ Hid (allR (l.take i) k = true) ∧ w = wr) (fun v _ => n - (intOf v).toNat)
  case atStart => exact ⟨0, rfl, Nat.zero_le _, rfl, rfl⟩
  case round =>
    obtain ⟨i, rfl, hi, HP, rfl⟩ := hrel
    by_cases hlt : i < n
    · have hltz : (i : Int) < (n : Int) := by omega
      obtain ⟨t, ht⟩ : ∃ t, l[i]? = some t := ⟨l[i]'(by rw [HN.out]; exact hlt), List.getElem?_eq_getElem _⟩
      obtain ⟨b, o, rfl, hb, hc⟩ := HR.out.at_ ht
      have c0 : w.cell? ⟨b, o + i * 4, none⟩ = some (.int .i64 (isR t)) := hc 0 _ rfl
      obtain ⟨q, hq⟩ : ∃ q, isR t = q := ⟨_, rfl⟩
      rw [hq] at c0
      by_cases hqk : q = k
      · subst hqk
        have HP2 := Lib.hid (all_step ht hq HP.out)
        clear ht hc hq
        go_wp2
        go_roundw
        case rel => exact ⟨i + 1, by go_num, by omega, HP2, trivial⟩
        case measure => simp [intOf]; omega
      · have hz : (q != k) = true := by rw [bne_iff_ne]; exact hqk
        obtain rfl : r = false := HV.out.symm.trans (all_no ht (by rw [hq]; exact hqk))
        clear ht hc hq
        go_wp2
        go_ret
        exact ⟨rfl, rfl⟩
    · have hltz : ¬ (i : Int) < (n : Int) := by omega
      have hP := HP.out
      rw [List.take_of_length_le (by rw [HN.out]; omega)] at hP
      obtain rfl : r = true := HV.out.symm.trans hP
      clear hP
      go_wp2
      go_ret
      exact ⟨rfl, rfl⟩
end Go.Proofs.YtmbiompmhaiehaaDoor
/- The walk of the reference: texts put together. -/
namespace Go.Proofs.YtmbiompmhaiehaaDoor
open Go.RowKit

/-- the texts of the first so many -/
def txL (l : List Th) (i : Nat) : List UInt8 := rowL ((l.take i).map Th.s)
theorem tx_succ {l : List Th} {i : Nat} {t : Th} (h : l[i]? = some t) : txL l (i + 1) = txL l i ++ t.s := by
  obtain ⟨hi, hv⟩ := List.getElem?_eq_some_iff.1 h
  unfold txL rowL
  rw [List.take_succ_eq_append_getElem hi, hv]
  simp
theorem tx_all {l : List Th} {i : Nat} (h : l.length ≤ i) : txL l i = rowL (l.map Th.s) := by
  unfold txL
  rw [List.take_of_length_le h]
theorem tx_le (l : List Th) (i : Nat) : (txL l i).length ≤ (rowL (l.map Th.s)).length := by
  have : rowL (l.map Th.s) = txL l i ++ rowL ((l.drop i).map Th.s) := by
    unfold txL rowL
    rw [← List.flatten_append, ← List.map_append, List.take_append_drop]
  rw [this, List.length_append]
  omega
theorem all_text {l : List Th} {i : Nat} {t : Th} (h : allR l 2 = true) (ht : l[i]? = some t) : ∃ s, t = .text s := by
  unfold allR at h
  have := List.all_eq_true.1 h t (List.mem_of_getElem? ht)
  have := of_decide_eq_true this
  cases t <;> simp [isR] at this
  exact ⟨_, rfl⟩

set_option maxRecDepth 100000 in
set_option maxHeartbeats 8000000 in
theorem rwords_any {w : World} {A : Option Addr} {c : Nat} {l : List Th} (hR : RT w w.heap.size A l) (hl : l.length ≤ 2932031007402) (ha : allR l 2 = true) (hsz : ∀ t ∈ l, t.s.length ≤ 140737488355328) :
    Calls Tryd.prog 36 #[.slice A l.length c] w (RAt (textE (rowL (l.map Th.s))) w) := by
  obtain ⟨n, hn⟩ : ∃ n, l.length = n := ⟨_, rfl⟩
  obtain ⟨wz, hww⟩ : ∃ W, w.alloc (.cells #[.int .i64 0, .bool false, .int .u64 0, .string ⟨#[]⟩] 51) = W := ⟨_, rfl⟩
  have BZ : Hid (Below w.heap.size w wz) := by rw [← hww]; exact (Below.refl _ w).alloc (Nat.le_refl _) _
  have KZ : Hid (CB wz w.heap.size 51 #[.int .i64 0, .bool false, .int .u64 0, .string ⟨#[]⟩]) := by rw [← hww]; exact CB.new w _ _
  have HN := Lib.hid hn
  have HR := Lib.hid (hR.below BZ.out)
  have HA := Lib.hid ha
  have HZ := Lib.hid hsz
  rw [hn] at hl
  rw [hn]
  obtain ⟨E, hE⟩ : ∃ E, textE (rowL (l.map Th.s)) = E := ⟨_, rfl⟩
  have HE := Lib.hid hE
  rw [hE]
  have hwz : w.heap.size < wz.heap.size := CB.len KZ.out
  clear hR hn ha hsz hE
  go_enter Tryd.func36, Tryd.ntmps36
  go_wp2
  go_loopw [4, 5] (fun u v wr => ∃ (N i : Nat), u = .int .i64 N ∧ v = .int .i64 i ∧ i ≤ n ∧ N ≤ 4096 ∧ Hid (N = (txL l i).length) ∧ wz = wr) (fun _ v _ => n - (intOf v).toNat)
  case atStart => exact ⟨0, 0, rfl, rfl, Nat.zero_le _, Nat.zero_le _, rfl, rfl⟩
  case round =>
    obtain ⟨N, i, rfl, rfl, hi, hN, HT, rfl⟩ := hrel
    by_cases hlt : i < n
    · have hltz : (i : Int) < (n : Int) := by omega
      obtain ⟨t, ht⟩ : ∃ t, l[i]? = some t := ⟨l[i]'(by rw [HN.out]; exact hlt), List.getElem?_eq_getElem _⟩
      obtain ⟨s, rfl⟩ := all_text HA.out ht
      obtain ⟨b, o, rfl, hb, hc⟩ := HR.out.at_ ht
      have c3 : wz.cell? ⟨b, o + i * 4 + 3, none⟩ = some (.string (str s)) := hc 3 _ rfl
      obtain ⟨X, hX⟩ : ∃ X, str s = X := ⟨_, rfl⟩
      have hXs : X.size = s.length := by rw [← hX, str_size]
      have hs0 : s.length ≤ 140737488355328 := HZ.out _ (List.mem_of_getElem? ht)
      rw [hX] at c3
      have hT2 := tx_succ ht
      have hTl : (txL l (i + 1)).length = N + s.length := by rw [hT2, List.length_append, ← HT.out]; rfl
      by_cases hbig : 4096 < N + s.length
      · have hz : (4096 : Int) < (N : Int) + (X.size : Int) := by omega
        have hb9 : (N : Int) + (X.size : Int) ≤ 140737488359424 := by omega
        have HS : Hid (Says E 0 false 0 ⟨#[]⟩ 2) := by
          rw [← HE.out]
          unfold textE
          have := tx_le l (i + 1)
          rw [if_neg (by omega)]
          exact says_err (e := 2) (by decide) rfl
        clear ht hc hX hXs hT2 hTl hs0 hbig
        go_wp2_with (refine wpList_store_cb rfl 51 (.tmp 2) (.tmp 25) rfl w.heap.size _ #[.int .i64 0, .bool false, .int .u64 0, .string ⟨#[]⟩] rfl rfl KZ.out rfl (by kernel_rfl) (by kernel_rfl) ?_; intro w9 k9 t9)
        exact bodyPost_ret (v := .tuple #[.agg #[.int .i64 0, .bool false, .int .u64 0, .string ⟨#[]⟩], .int .i64 2]) (results_cv rfl _ _ _ _ _ rfl rfl k9 Tryd.underlying51 rfl (by kernel_rfl)) rfl ⟨_, _, _, _, _, rfl, BZ.out.trans (t9.below (Nat.le_refl _)), HS.out⟩
      · have hz : ¬ (4096 : Int) < (N : Int) + (X.size : Int) := by omega
        have HT2 : Hid (N + X.size = (txL l (i + 1)).length) := by unfold Hid; rw [hXs]; exact hTl.symm
        have hNX : N + X.size ≤ 4096 := by omega
        clear ht hc hX hXs hT2 hTl hs0 hbig
        go_wp2
        go_roundw
        case rel => exact ⟨N + X.size, i + 1, by go_num, by go_num, by omega, hNX, HT2, trivial⟩
        case measure => simp [intOf]; omega
    · have hltz : ¬ (i : Int) < (n : Int) := by omega
      have hfit : (rowL (l.map Th.s)).length ≤ 4096 := by
        have := tx_all (l := l) (i := i) (by rw [HN.out]; omega)
        rw [← this, ← HT.out]
        exact hN
      have HFit := Lib.hid hfit
      have HO0 := Lib.hid (OwnB.nil wz wz.heap.size 5)
      clear hfit HT
      go_wp2_with fail
      obtain ⟨wo, hwo⟩ : ∃ wo : World, wo = wz := ⟨_, rfl⟩
      go_loopw [6, 7] (fun u v wr => ∃ (P : List UInt8) (A2 : Option Addr) (c2 j : Nat), u = .slice A2 P.length c2 ∧ v = .int .i64 j ∧ j ≤ n ∧ Hid (P = txL l j) ∧ Hid (OwnB wr wz.heap.size 5 A2 c2 P) ∧ Hid (Below wz.heap.size wz wr)) (fun _ v _ => n - (intOf v).toNat)
      case atStart => exact ⟨[], none, 0, 0, rfl, rfl, Nat.zero_le _, rfl, HO0, Below.refl _ _⟩
      case round =>
        obtain ⟨P, A2, c2, j, rfl, rfl, hj, HP, HO, HB⟩ := hrel
        by_cases hjl : j < n
        · have hjz : (j : Int) < (n : Int) := by omega
          obtain ⟨t, ht⟩ : ∃ t, l[j]? = some t := ⟨l[j]'(by rw [HN.out]; exact hjl), List.getElem?_eq_getElem _⟩
          obtain ⟨s, rfl⟩ := all_text HA.out ht
          have HT1 : Hid (txL l (j + 1) = txL l j ++ s) := tx_succ ht
          obtain ⟨b, o, rfl, hb, hc⟩ := HR.out.at_ ht
          obtain ⟨X, hX⟩ : ∃ X, str s = X := ⟨_, rfl⟩
          have HX := Lib.hid hX
          have c3z : Hid (wz.cell? ⟨b, o + j * 4 + 3, none⟩ = some (.string X)) := by rw [← hX]; exact hc 3 _ rfl
          have hbz : b < wz.heap.size := Nat.lt_of_lt_of_le hb BZ.out.size
          have HXs : Hid (X.size = s.length) := by rw [← hX]; exact str_size s
          have hXb : X.size ≤ 140737488355328 := by rw [HXs.out]; exact HZ.out _ (List.mem_of_getElem? ht)
          clear ht hc hX
          go_wp2_with fail
          obtain ⟨wq, hwq⟩ : ∃ wq : World, wq = wr := ⟨_, rfl⟩
          go_loopw [6, 8] (fun u v wr => ∃ (Q : List UInt8) (A3 : Option Addr) (c3 k : Nat), u = .slice A3 Q.length c3 ∧ v = .int .i64 k ∧ k ≤ X.size ∧ Hid (Q = P ++ s.take k) ∧ Hid (OwnB wr wz.heap.size 5 A3 c3 Q) ∧ Hid (Below wz.heap.size wz wr)) (fun _ v _ => X.size - (intOf v).toNat)
          case atStart => exact ⟨P, A2, c2, 0, rfl, rfl, Nat.zero_le _, by unfold Hid; simp, HO, HB⟩
          case round =>
            obtain ⟨Q, A3, c3, k, rfl, rfl, hk, HQ, HO3, HB3⟩ := hrel
            have cc := (HB3.out.cell (p := ⟨b, o + j * 4 + 3, none⟩) hbz).trans c3z.out
            by_cases hkl : k < X.size
            · have hkz : (k : Int) < (X.size : Int) := by omega
              obtain ⟨x, hx⟩ : ∃ x, X[k]'hkl = x := ⟨_, rfl⟩
              obtain ⟨r, hr⟩ : ∃ r, r = Q ++ [x] := ⟨_, rfl⟩
              have hrl : r.length = Q.length + 1 := by rw [hr, List.length_append]; rfl
              have hQl : Q.length ≤ 4096 := by
                have h1 := tx_le l (j + 1)
                rw [HT1.out, List.length_append, ← HP.out] at h1
                have h2 := HFit.out
                have h3 := congrArg List.length HQ.out
                rw [List.length_append, List.length_take] at h3
                omega
              have hq2 : r = P ++ s.take (k + 1) := by
                have hks : k < s.length := by rw [← HXs.out]; exact hkl
                have hxs : s[k] = x := by
                  rw [← hx]
                  have := HX.out
                  subst this
                  rfl
                rw [hr, HQ.out, List.take_succ_eq_append_getElem hks, hxs, List.append_assoc]
              obtain ⟨A4, c4, w4, ha4, ho4, hb4⟩ := run_app_new HO3.out #[.int .u8 (x.toNat : Nat)] [x] 1 rfl rfl 5 r hr (by omega) HB3.out.size
              have HA4 := Lib.hid ha4
              have HO4 := Lib.hid ho4
              have HQ4 : Hid (r = P ++ s.take (k + 1)) := hq2
              have HB4 := Lib.hid (HB3.out.trans hb4)
              clear ha4 ho4 hb4 hq2 hr hrl hQl
              go_wp2_with (at_builtin; refine wpList_append_run rfl (.tmp 42) (.tmp 50) _ rfl rfl rfl HA4.out ?_)
              go_roundw
              case rel => exact ⟨r, A4, c4, k + 1, rfl, by go_num, by omega, HQ4, HO4, HB4⟩
              case measure => simp [intOf]; omega
            · have hkz : ¬ (k : Int) < (X.size : Int) := by omega
              have HQ4 : Hid (Q = txL l (j + 1)) := by
                unfold Hid
                rw [HT1.out, ← HP.out, HQ.out, List.take_of_length_le (by rw [← HXs.out]; omega)]
              go_wp2
              go_roundw
              case rel => exact ⟨Q, A3, c3, j + 1, rfl, by go_num, by omega, HQ4, HO3, HB3⟩
              case measure => simp [intOf]; omega
        · have hjz : ¬ (j : Int) < (n : Int) := by omega
          have hst := own_byt HO.out c2
          have hPa : P = rowL (l.map Th.s) := HP.out.trans (tx_all (by rw [HN.out]; omega))
          have HS : Hid (Says E 2 false 0 (str P) 0) := by
            rw [← HE.out, hPa]
            unfold textE
            rw [if_pos HFit.out]
            exact ⟨rfl, rfl, rfl, rfl, rfl⟩
          have k4 := Lib.hid (KZ.out.below HB.out)
          have B4 := Lib.hid (BZ.out.trans (HB.out.mono BZ.out.size))
          clear hPa HP
          go_wp2_with (refine wpList_store_cb rfl 51 (.tmp 2) (.tmp 54) rfl w.heap.size _ #[.int .i64 2, .bool false, .int .u64 0, .string (str P)] rfl rfl k4.out rfl (by kernel_rfl) (by kernel_rfl) ?_; intro w9 k9 t9)
          exact bodyPost_ret (v := .tuple #[.agg #[.int .i64 2, .bool false, .int .u64 0, .string (str P)], .int .i64 0]) (results_cv rfl _ _ _ _ _ rfl rfl k9 Tryd.underlying51 rfl (by kernel_rfl)) rfl ⟨_, _, _, _, _, rfl, B4.out.trans (t9.below (Nat.le_refl _)), HS.out⟩
end Go.Proofs.YtmbiompmhaiehaaDoor
