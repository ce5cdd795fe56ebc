/- The walks of the code: what a node's one kid stands for, what its two stand for. -/
import Derived.Test.YtmbiompmhaiehaaDoorExGive
import Derived.Test.YtmbiompmhaiehaaDoorPoKd
import Derived.Test.YtmbiompmhaiehaaDoorPoNode
import Derived.Test.YtmbiompmhaiehaaDoorPoWhole
namespace Go.Proofs.YtmbiompmhaiehaaDoor
open Go.RowKit

/-- what the reckoning stands on: the expression's blocks, its nodes -/
structure Ex (w : World) (x f d : Nat) (A : Option Addr) (c : Nat) (N : List Rn) (F D : List Nat) : Prop where
  xb : Xb w x f d A c N F D
  rn : RN w w.heap.size A N
  kn : Known N F D N.length
  few : N.length ≤ 2932031007402
  num : ∀ y ∈ N, y.num < 18446744073709551616 ∧ y.t.length ≤ 9223372036854775807
theorem Ex.below {w w' : World} {x f d : Nat} {A : Option Addr} {c : Nat} {N : List Rn} {F D : List Nat} (h : Ex w x f d A c N F D) (hb : Below w.heap.size w w') : Ex w' x f d A c N F D :=
  ⟨h.xb.below hb, (h.rn.below hb).more hb.size, h.kn, h.few, h.num⟩
/-- the reckoning's contract at a root -/
def RecC (x f d : Nat) (A : Option Addr) (c : Nat) (N : List Rn) (F D : List Nat) (r : Nat) : Prop := ∀ {w : World}, Ex w x f d A c N F D →
  Calls Tryd.prog 26 #[.agg #[.pointer (some ⟨x, 0, none⟩), .int .i64 (r : Nat)]] w fun e w' => e = endR (resAt N r) ∧ Below w.heap.size w w'
theorem thC_four (t : Th) : ∃ (so : Int) (bl : Bool) (nn : Nat) (S : ByteArray), thC t = #[.int .i64 so, .bool bl, .int .u64 (nn : Nat), .string S] := ⟨_, _, _, _, rfl⟩
/-- a subtree's block, a thing's block -/
theorem sub_mean (w : World) (x r : Nat) : ∃ w2, (w.alloc (.cells #[.pointer (some ⟨x, 0, none⟩), .int .i64 (r : Nat)] 43)).alloc (.cells #[.int .i64 0, .bool false, .int .u64 0, .string ⟨#[]⟩] 64) = w2 ∧ Below w.heap.size w w2 ∧ w2.heap.size = w.heap.size + 2 ∧
    CB w2 w.heap.size 43 #[.pointer (some ⟨x, 0, none⟩), .int .i64 (r : Nat)] ∧ CB w2 (w.heap.size + 1) 64 #[.int .i64 0, .bool false, .int .u64 0, .string ⟨#[]⟩] := by
  obtain ⟨w1, hw1⟩ : ∃ w1, w1 = w.alloc (.cells #[.pointer (some ⟨x, 0, none⟩), .int .i64 (r : Nat)] 43) := ⟨_, rfl⟩
  rw [← hw1]
  have s1 : w1.heap.size = w.heap.size + 1 := by rw [hw1]; simp
  have b1 : Below w.heap.size w w1 := by rw [hw1]; exact (Below.refl _ w).alloc (Nat.le_refl _) _
  have b2 : Below w1.heap.size w1 (w1.alloc (.cells #[.int .i64 0, .bool false, .int .u64 0, .string ⟨#[]⟩] 64)) := (Below.refl _ w1).alloc (Nat.le_refl _) _
  refine ⟨_, rfl, b1.trans (b2.mono (by omega)), by simp [s1], CB.below (by rw [hw1]; exact CB.new w _ _) b2, ?_⟩
  rw [← s1]
  exact CB.new w1 _ _
/-- a node's kids, by their roots -/
theorem kids_row {w : World} {x f d : Nat} {A : Option Addr} {c : Nat} {N : List Rn} {F D : List Nat} {r k : Nat} {P : List Pe} (hE : Ex w x f d A c N F D) (hP : pileP N r = some P) (hk : k ≤ P.length) (hF : F[r]? = some (bottom r (P.take k))) (hr : r < N.length) (h0 : 0 < k) :
    Calls Tryd.prog 74 #[.agg #[.pointer (some ⟨x, 0, none⟩), .int .i64 (r : Nat)]] w fun e w' => ∃ gk ck, e = .returned (.slice (some ⟨gk, 0, none⟩) k ck) ∧ Below w.heap.size w w' ∧ KR w' gk x (kidRoots P k) := by
  refine (pkids_any hE.xb hE.kn hP hk hF hr hE.few).mono ?_
  rintro e w' ⟨Ak, ck, he, hb, h⟩
  rcases h with h | ⟨gk, rfl, _, hk⟩
  · omega
  · exact ⟨gk, ck, he, hb, hk⟩
theorem kidRoots_one {P : List Pe} (hk : 1 ≤ P.length) : kidRoots P 1 = [P[0].r] := by
  cases P with
  | nil => simp at hk
  | cons a l => rfl
theorem kidRoots_two {P : List Pe} (hk : 2 ≤ P.length) : kidRoots P 2 = [P[1].r, P[0].r] := by
  cases P with
  | nil => simp at hk
  | cons a l =>
    cases l with
    | nil => simp at hk
    | cons b l => rfl

set_option maxRecDepth 100000 in
set_option maxHeartbeats 4000000 in
theorem one_any {w : World} {x f d : Nat} {A : Option Addr} {c : Nat} {N : List Rn} {F D : List Nat} {r : Nat} {P : List Pe} (IH : ∀ r', r' < r → RecC x f d A c N F D r') (hE : Ex w x f d A c N F D) (hP : pileP N r = some P) (hk : 1 ≤ P.length) (hF : F[r]? = some (bottom r (P.take 1))) (hr : r < N.length) :
    Calls Tryd.prog 69 #[.agg #[.pointer (some ⟨x, 0, none⟩), .int .i64 (r : Nat)]] w fun e w' => e = endR (resAt N P[0].r) ∧ Below w.heap.size w w' := by
  obtain ⟨w2, hw2, b2, s2, k0, k1⟩ := sub_mean w x r
  have c0 : w2.cell? ⟨w.heap.size, 0, none⟩ = some (.pointer (some ⟨x, 0, none⟩)) := k0.at_ 0
  have c1 : w2.cell? ⟨w.heap.size, 1, none⟩ = some (.int .i64 (r : Nat)) := k0.at_ 1
  obtain ⟨q, hq⟩ : ∃ q, P[0].r = q := ⟨_, rfl⟩
  have hqr : q < r := by rw [← hq]; exact (pile_mem r P hP P[0] (List.getElem_mem _)).1
  have CK : Hid (Calls Tryd.prog 74 #[.agg #[.pointer (some ⟨x, 0, none⟩), .int .i64 (r : Nat)]] w2 fun e w3 => ∃ gk ck, e = .returned (.slice (some ⟨gk, 0, none⟩) 1 ck) ∧ (w3.cell? ⟨gk, 0, none⟩ = some (.pointer (some ⟨x, 0, none⟩)) ∧ w3.cell? ⟨gk, 1, none⟩ = some (.int .i64 (q : Nat))) ∧
      Hid (Calls Tryd.prog 26 #[.agg #[.pointer (some ⟨x, 0, none⟩), .int .i64 (q : Nat)]] w3 fun e w4 => e = endR (resAt N q) ∧ CB w4 (w.heap.size + 1) 64 #[.int .i64 0, .bool false, .int .u64 0, .string ⟨#[]⟩] ∧ Hid (Below w.heap.size w w4))) := by
    refine (kids_row (hE.below b2) hP hk hF hr (by omega)).mono ?_
    rintro e w3 ⟨gk, ck, he, hb3, hkr⟩
    rw [kidRoots_one hk] at hkr
    obtain ⟨q1, q2, _, _⟩ := hkr.at_ (j := 0) (by simp)
    refine ⟨gk, ck, he, ⟨q1, by rw [← hq]; exact q2⟩, (IH q hqr ((hE.below b2).below hb3)).mono ?_⟩
    rintro e w4 ⟨he, hb4⟩
    exact ⟨he, (k1.below hb3).below hb4, (b2.trans (hb3.mono b2.size)).trans (hb4.mono (Nat.le_trans b2.size hb3.size))⟩
  rw [hq]
  clear IH hE hP hF hr hq hqr k0 k1
  cases hres : resAt N q with
  | ok t =>
    obtain ⟨so, bl, nn, S, hth⟩ := thC_four t
    have he : endR (.ok t) = .returned (.agg #[.int .i64 so, .bool bl, .int .u64 (nn : Nat), .string S]) := by rw [← hth]; rfl
    rw [hres] at CK
    rw [he] at CK
    rw [he]
    clear he hth hres
    go_enter Tryd.func69, Tryd.ntmps69
    go_wp2_with (first
      | (go_at_call 74; refine CK.out.mono ?_; rintro e w3 ⟨gk, ck, rfl, ⟨q1, q2⟩, CR⟩)
      | (go_at_call 26; refine CR.out.mono ?_; rintro e w4 ⟨rfl, h4, H4⟩)
      | (refine wpList_store_cb rfl 64 (.tmp 2) (.tmp 7) rfl (w.heap.size + 1) _ #[.int .i64 so, .bool bl, .int .u64 (nn : Nat), .string S] rfl rfl h4 rfl (by kernel_rfl) (by kernel_rfl) ?_; intro w9 h9 t9))
    exact bodyPost_ret (results_cb rfl _ _ _ _ rfl h9 Tryd.underlying64 rfl (by kernel_rfl)) rfl ⟨rfl, H4.out.trans (t9.below (by omega))⟩
  | error z =>
    obtain ⟨za, ze⟩ := z
    have he : endR (.error (za, ze)) = .panicked [faultV za ze] := rfl
    rw [hres] at CK
    rw [he] at CK
    rw [he]
    clear he hres
    go_enter Tryd.func69, Tryd.ntmps69
    go_wp2_with (first
      | (go_at_call 74; refine CK.out.mono ?_; rintro e w3 ⟨gk, ck, rfl, ⟨q1, q2⟩, CR⟩)
      | (go_at_call 26; refine CR.out.mono ?_; rintro e w4 ⟨rfl, h4, H4⟩))
    exact ⟨rfl, rfl, H4.out⟩

/-- two structs out of their blocks -/
theorem results_cc {P : Program} {fn : Func} {s u : Tmp} {T : TypeId} (h : fn.results = #[.cell s T, .cell u T]) (tmps : Array Value) (w : World) (a b : Nat) (cs ds : Array Value)
    (hp : tmps.getD s undef = .pointer (some ⟨a, 0, none⟩)) (hq : tmps.getD u undef = .pointer (some ⟨b, 0, none⟩)) (ha : CB w a T cs) (hb : CB w b T ds) {d : TypeDesc} (hu : P.underlying T = some d) (hd : d.isRow = true) (hi : (P.info? T).map (·.size) = some cs.size) (hj : (P.info? T).map (·.size) = some ds.size) : (results fn tmps).run P w = .ok (.tuple #[.agg cs, .agg ds]) w := by
  unfold results
  rw [h]
  have hp' : tmps[s]?.getD undef = .pointer (some ⟨a, 0, none⟩) := by simpa [Array.getD_eq_getD_getElem?] using hp
  have hq' : tmps[u]?.getD undef = .pointer (some ⟨b, 0, none⟩) := by simpa [Array.getD_eq_getD_getElem?] using hq
  simp [hp', hq', asAddr, ha.load hu hd hi, hb.load hu hd hj]
theorem two_stored {w : World} {a b B : Nat} {T : TypeId} {c0 d0 cs ds : Array Value} (ha : CB w a T c0) (hb : CB w b T d0) (hne : a ≠ b) (hc : cs.size = c0.size) (hd : ds.size = d0.size) (hBa : B ≤ a) (hBb : B ≤ b) :
    CB ((w.setCells a 0 cs.toList).setCells b 0 ds.toList) a T cs ∧ CB ((w.setCells a 0 cs.toList).setCells b 0 ds.toList) b T ds ∧ Below B w ((w.setCells a 0 cs.toList).setCells b 0 ds.toList) := by
  have t1 : Turned a w (w.setCells a 0 cs.toList) := Turned.setCells _ _ _ (Turned.refl a w)
  have t2 : Turned b (w.setCells a 0 cs.toList) ((w.setCells a 0 cs.toList).setCells b 0 ds.toList) := Turned.setCells _ _ _ (Turned.refl b _)
  exact ⟨(ha.store hc).keep (t2.others _ hne), (hb.keep (t1.others _ hne.symm)).store hd, (t1.below hBa).trans (t2.below hBb)⟩
/-- four cells stored, as a walk spells it -/
abbrev set4 (W : World) (b : Nat) (v0 v1 v2 v3 : Value) : World := (((W.setCell ⟨b, 0, none⟩ v0).setCell ⟨b, 1, none⟩ v1).setCell ⟨b, 2, none⟩ v2).setCell ⟨b, 3, none⟩ v3
theorem set4_eq (W : World) (b : Nat) (v0 v1 v2 v3 : Value) : W.setCells b 0 (#[v0, v1, v2, v3] : Array Value).toList = set4 W b v0 v1 v2 v3 := rfl
theorem cb_drew {w : World} {b : Nat} {T : TypeId} {cs : Array Value} (h : CB w b T cs) : CB w.drew b T cs := h
/-- two things stored whole, one behind the other -/
theorem means_stored {w W : World} {a b : Nat} {T : TypeId} {v0 v1 v2 v3 u0 u1 u2 u3 : Value} {c0 d0 : Array Value} (ha : CB W a T c0) (hb : CB W b T d0) (hne : a ≠ b) (hc : c0.size = 4) (hd : d0.size = 4) (hBa : w.heap.size ≤ a) (hBb : w.heap.size ≤ b) (h : Below w.heap.size w W) :
    CB (set4 (set4 W a v0 v1 v2 v3) b u0 u1 u2 u3).drew a T #[v0, v1, v2, v3] ∧ CB (set4 (set4 W a v0 v1 v2 v3) b u0 u1 u2 u3).drew b T #[u0, u1, u2, u3] ∧ Below w.heap.size w (set4 (set4 W a v0 v1 v2 v3) b u0 u1 u2 u3).drew := by
  have h0 := two_stored (B := w.heap.size) (cs := #[v0, v1, v2, v3]) (ds := #[u0, u1, u2, u3]) ha hb hne hc.symm hd.symm hBa hBb
  have q1 := set4_eq W a v0 v1 v2 v3
  have q2 := set4_eq (set4 W a v0 v1 v2 v3) b u0 u1 u2 u3
  generalize set4 (set4 W a v0 v1 v2 v3) b u0 u1 u2 u3 = Y at q2 ⊢
  rw [q1, q2] at h0
  exact ⟨cb_drew h0.1, cb_drew h0.2.1, Below.thenN (h.trans h0.2.2) 1⟩
/-- a subtree's block, two things' blocks -/
theorem sub_two (w : World) (x r : Nat) : ∃ w3, ((w.alloc (.cells #[.pointer (some ⟨x, 0, none⟩), .int .i64 (r : Nat)] 43)).alloc (.cells #[.int .i64 0, .bool false, .int .u64 0, .string ⟨#[]⟩] 64)).alloc (.cells #[.int .i64 0, .bool false, .int .u64 0, .string ⟨#[]⟩] 64) = w3 ∧ Below w.heap.size w w3 ∧ w3.heap.size = w.heap.size + 3 ∧
    CB w3 w.heap.size 43 #[.pointer (some ⟨x, 0, none⟩), .int .i64 (r : Nat)] ∧ CB w3 (w.heap.size + 1) 64 #[.int .i64 0, .bool false, .int .u64 0, .string ⟨#[]⟩] ∧ CB w3 (w.heap.size + 1 + 1) 64 #[.int .i64 0, .bool false, .int .u64 0, .string ⟨#[]⟩] := by
  obtain ⟨w2, hw2, b2, s2, k0, k1⟩ := sub_mean w x r
  rw [hw2]
  have b3 : Below w2.heap.size w2 (w2.alloc (.cells #[.int .i64 0, .bool false, .int .u64 0, .string ⟨#[]⟩] 64)) := (Below.refl _ w2).alloc (Nat.le_refl _) _
  refine ⟨_, rfl, b2.trans (b3.mono (by omega)), by simp [s2], k0.below b3, k1.below b3, ?_⟩
  rw [show w.heap.size + 1 + 1 = w2.heap.size by omega]
  exact CB.new w2 _ _
/-- what two answers -/
def endTwo : Res → Res → Ending
  | .error (a, e), _ => .panicked [faultV a e]
  | .ok _, .error (a, e) => .panicked [faultV a e]
  | .ok t, .ok u => .returned (.tuple #[.agg (thC t), .agg (thC u)])

set_option maxRecDepth 100000 in
set_option maxHeartbeats 4000000 in
theorem two_any {w : World} {x f d : Nat} {A : Option Addr} {c : Nat} {N : List Rn} {F D : List Nat} {r : Nat} {P : List Pe} (IH : ∀ r', r' < r → RecC x f d A c N F D r') (hE : Ex w x f d A c N F D) (hP : pileP N r = some P) (hk : 2 ≤ P.length) (hF : F[r]? = some (bottom r (P.take 2))) (hr : r < N.length) :
    Calls Tryd.prog 49 #[.agg #[.pointer (some ⟨x, 0, none⟩), .int .i64 (r : Nat)]] w fun e w' => e = endTwo (resAt N P[1].r) (resAt N P[0].r) ∧ Below w.heap.size w w' := by
  obtain ⟨w3, hw3, b3, s3, k0, k1, k2⟩ := sub_two w x r
  have c0 : w3.cell? ⟨w.heap.size, 0, none⟩ = some (.pointer (some ⟨x, 0, none⟩)) := k0.at_ 0
  have c1 : w3.cell? ⟨w.heap.size, 1, none⟩ = some (.int .i64 (r : Nat)) := k0.at_ 1
  obtain ⟨q, hq⟩ : ∃ q, P[1].r = q := ⟨_, rfl⟩
  obtain ⟨p, hp⟩ : ∃ p, P[0].r = p := ⟨_, rfl⟩
  have hqr : q < r := by rw [← hq]; exact (pile_mem r P hP P[1] (List.getElem_mem _)).1
  have hpr : p < r := by rw [← hp]; exact (pile_mem r P hP P[0] (List.getElem_mem _)).1
  -- what stands from here on
  have KX : Hid (∀ W, Below w3.heap.size w3 W → Ex W x f d A c N F D ∧ CB W (w.heap.size + 1) 64 #[.int .i64 0, .bool false, .int .u64 0, .string ⟨#[]⟩] ∧ CB W (w.heap.size + 1 + 1) 64 #[.int .i64 0, .bool false, .int .u64 0, .string ⟨#[]⟩] ∧ Below w.heap.size w W ∧ w.heap.size + 3 ≤ W.heap.size) :=
    fun W hW => ⟨(hE.below b3).below hW, k1.below hW, k2.below hW, b3.trans (hW.mono b3.size), by have := hW.size; omega⟩
  have CK : Hid (Calls Tryd.prog 74 #[.agg #[.pointer (some ⟨x, 0, none⟩), .int .i64 (r : Nat)]] w3 fun e w4 => ∃ gk ck, e = .returned (.slice (some ⟨gk, 0, none⟩) 2 ck) ∧ (w4.cell? ⟨gk, 0, none⟩ = some (.pointer (some ⟨x, 0, none⟩)) ∧ w4.cell? ⟨gk, 1, none⟩ = some (.int .i64 (q : Nat))) ∧ Hid (Below w3.heap.size w3 w4 ∧ KR w4 gk x [q, p])) := by
    refine (kids_row (hE.below b3) hP hk hF hr (by omega)).mono ?_
    rintro e w4 ⟨gk, ck, he, hb4, hkr⟩
    rw [kidRoots_two hk, hq, hp] at hkr
    obtain ⟨q1, q2, _, _⟩ := hkr.at_ (j := 0) (by simp)
    exact ⟨gk, ck, he, ⟨q1, q2⟩, hb4, hkr⟩
  have CR : Hid (∀ w4 gk, Below w3.heap.size w3 w4 ∧ KR w4 gk x [q, p] → Calls Tryd.prog 26 #[.agg #[.pointer (some ⟨x, 0, none⟩), .int .i64 (q : Nat)]] w4 fun e w5 => e = endR (resAt N q) ∧ Hid (Below w3.heap.size w3 w5 ∧ KR w5 gk x [q, p])) := fun w4 gk ⟨h4, hk4⟩ => by
    refine (IH q hqr (KX.out w4 h4).1).mono ?_
    rintro e w5 ⟨he, hb5⟩
    exact ⟨he, h4.trans (hb5.mono h4.size), hk4.keep (hb5.block gk hk4.len)⟩
  have CS : Hid (∀ w5, Below w3.heap.size w3 w5 → Calls Tryd.prog 26 #[.agg #[.pointer (some ⟨x, 0, none⟩), .int .i64 (p : Nat)]] w5 fun e w6 => e = endR (resAt N p) ∧ Below w5.heap.size w5 w6) := fun w5 h5 => IH p hpr (KX.out w5 h5).1
  rw [hq, hp]
  clear IH hE hP hF hr hq hqr hp hpr k0 k1 k2
  cases hres : resAt N q with
  | error z =>
    obtain ⟨za, ze⟩ := z
    have he : endTwo (.error (za, ze)) (resAt N p) = .panicked [faultV za ze] := rfl
    have he2 : endR (.error (za, ze)) = .panicked [faultV za ze] := rfl
    rw [hres, he2] at CR
    rw [he]
    clear he he2 hres CS
    go_enter Tryd.func49, Tryd.ntmps49
    go_wp2_with (first
      | (go_at_call 74; refine CK.out.mono ?_; rintro e w4 ⟨gk, ck, rfl, ⟨q1, q2⟩, H4⟩)
      | (go_at_call 26; refine (CR.out w4 gk H4.out).mono ?_; rintro e w5 ⟨rfl, H5⟩))
    exact ⟨rfl, rfl, (KX.out _ H5.out.1).2.2.2.1⟩
  | ok t =>
    obtain ⟨so, bl, nn, S, hth⟩ := thC_four t
    have he2 : endR (.ok t) = .returned (.agg #[.int .i64 so, .bool bl, .int .u64 (nn : Nat), .string S]) := by rw [← hth]; rfl
    rw [hres, he2] at CR
    have WX : Hid (∀ w5 gk, Below w3.heap.size w3 w5 ∧ KR w5 gk x [q, p] → ((w5.alloc (.cells #[.int .i64 so, .bool bl, .int .u64 (nn : Nat), .string S] 64)).cell? ⟨gk, 1 * 2, none⟩ = some (.pointer (some ⟨x, 0, none⟩)) ∧ (w5.alloc (.cells #[.int .i64 so, .bool bl, .int .u64 (nn : Nat), .string S] 64)).cell? ⟨gk, 1 * 2 + 1, none⟩ = some (.int .i64 (p : Nat))) ∧
        CB (w5.alloc (.cells #[.int .i64 so, .bool bl, .int .u64 (nn : Nat), .string S] 64)) w5.heap.size 64 #[.int .i64 so, .bool bl, .int .u64 (nn : Nat), .string S] ∧ Below w3.heap.size w3 (w5.alloc (.cells #[.int .i64 so, .bool bl, .int .u64 (nn : Nat), .string S] 64)) ∧ w3.heap.size ≤ w5.heap.size) := fun w5 gk ⟨h5, hk5⟩ => by
      have hb : Below w5.heap.size w5 (w5.alloc (.cells #[.int .i64 so, .bool bl, .int .u64 (nn : Nat), .string S] 64)) := (Below.refl _ w5).alloc (Nat.le_refl _) _
      obtain ⟨q1, q2, _, _⟩ := (hk5.keep (hb.block gk hk5.len)).at_ (j := 1) (by simp)
      exact ⟨⟨q1, q2⟩, CB.new w5 _ _, h5.trans (hb.mono h5.size), h5.size⟩
    cases hres2 : resAt N p with
    | error z =>
      obtain ⟨za, ze⟩ := z
      have he : endTwo (.ok t) (.error (za, ze)) = .panicked [faultV za ze] := rfl
      have he3 : endR (.error (za, ze)) = .panicked [faultV za ze] := rfl
      rw [hres2, he3] at CS
      rw [he]
      clear he he2 he3 hres hres2 hth
      go_enter Tryd.func49, Tryd.ntmps49
      go_wp2_with (first
        | (go_at_call 74; refine CK.out.mono ?_; rintro e w4 ⟨gk, ck, rfl, ⟨q1, q2⟩, H4⟩; have cr := CR.out w4 gk H4.out)
        | (go_at_call 26; with_reducible refine cr.mono ?_; rintro e w5 ⟨rfl, H5⟩; obtain ⟨⟨q3, q4⟩, H6, h7, h8⟩ := WX.out w5 gk H5.out; have cs := CS.out _ h7)
        | (go_at_call 26; with_reducible refine cs.mono ?_; rintro e w6 ⟨rfl, hb6⟩))
      exact ⟨rfl, rfl, (KX.out _ (h7.trans (hb6.mono h7.size))).2.2.2.1⟩
    | ok u =>
      obtain ⟨so2, bl2, nn2, S2, hth2⟩ := thC_four u
      have he : endTwo (.ok t) (.ok u) = .returned (.tuple #[.agg #[.int .i64 so, .bool bl, .int .u64 (nn : Nat), .string S], .agg #[.int .i64 so2, .bool bl2, .int .u64 (nn2 : Nat), .string S2]]) := by rw [← hth, ← hth2]; rfl
      have he3 : endR (.ok u) = .returned (.agg #[.int .i64 so2, .bool bl2, .int .u64 (nn2 : Nat), .string S2]) := by rw [← hth2]; rfl
      rw [hres2, he3] at CS
      rw [he]
      have ZX : Hid (∀ (w5 w5' w6 : World), CB w5' w5.heap.size 64 #[.int .i64 so, .bool bl, .int .u64 (nn : Nat), .string S] → Below w3.heap.size w3 w5' → w3.heap.size ≤ w5.heap.size → Below w5'.heap.size w5' w6 →
          (∀ j v, (#[.int .i64 so, .bool bl, .int .u64 (nn : Nat), .string S] : Array Value)[j]? = some v → (w6.alloc (.cells #[.int .i64 so2, .bool bl2, .int .u64 (nn2 : Nat), .string S2] 64)).cell? ⟨w5.heap.size, j, none⟩ = some v) ∧ CB (w6.alloc (.cells #[.int .i64 so2, .bool bl2, .int .u64 (nn2 : Nat), .string S2] 64)) w6.heap.size 64 #[.int .i64 so2, .bool bl2, .int .u64 (nn2 : Nat), .string S2] ∧ CB (w6.alloc (.cells #[.int .i64 so2, .bool bl2, .int .u64 (nn2 : Nat), .string S2] 64)) (w.heap.size + 1) 64 #[.int .i64 0, .bool false, .int .u64 0, .string ⟨#[]⟩] ∧ CB (w6.alloc (.cells #[.int .i64 so2, .bool bl2, .int .u64 (nn2 : Nat), .string S2] 64)) (w.heap.size + 1 + 1) 64 #[.int .i64 0, .bool false, .int .u64 0, .string ⟨#[]⟩] ∧
          Below w.heap.size w (w6.alloc (.cells #[.int .i64 so2, .bool bl2, .int .u64 (nn2 : Nat), .string S2] 64))) := fun w5 w5' w6 h1 h2 h3 h4 => by
        have hb : Below w6.heap.size w6 (w6.alloc (.cells #[.int .i64 so2, .bool bl2, .int .u64 (nn2 : Nat), .string S2] 64)) := (Below.refl _ w6).alloc (Nat.le_refl _) _
        have hb2 : Below w3.heap.size w3 (w6.alloc (.cells #[.int .i64 so2, .bool bl2, .int .u64 (nn2 : Nat), .string S2] 64)) := h2.trans ((h4.trans (hb.mono h4.size)).mono h2.size)
        obtain ⟨_, a1, a2, a3, _⟩ := KX.out _ hb2
        refine ⟨fun j v hv => ?_, CB.new w6 _ _, a1, a2, a3⟩
        rw [((h1.below h4).below hb).at_]
        exact hv
      clear he he2 he3 hres hres2 hth hth2
      go_enter Tryd.func49, Tryd.ntmps49
      go_wp2_with (first
        | (go_at_call 74; refine CK.out.mono ?_; rintro e w4 ⟨gk, ck, rfl, ⟨q1, q2⟩, H4⟩; have cr := CR.out w4 gk H4.out)
        | (go_at_call 26; with_reducible refine cr.mono ?_; rintro e w5 ⟨rfl, H5⟩; obtain ⟨⟨q3, q4⟩, H6, h7, h8⟩ := WX.out w5 gk H5.out; have cs := CS.out _ h7; have H6 := Lib.hid H6)
        | (go_at_call 26; with_reducible refine cs.mono ?_; rintro e w6 ⟨rfl, hb6⟩; clear q1 q2 q3 q4 cr cs))
      obtain ⟨u1, u2, u3, u4, u5⟩ := ZX.out w5 _ w6 H6.out h7 h8 hb6
      have x0 : (w6.alloc (.cells #[.int .i64 so2, .bool bl2, .int .u64 (nn2 : Nat), .string S2] 64)).cell? ⟨w5.heap.size, 0, none⟩ = some (.int .i64 so) := u1 0 _ rfl
      have y0 : (w6.alloc (.cells #[.int .i64 so2, .bool bl2, .int .u64 (nn2 : Nat), .string S2] 64)).cell? ⟨w6.heap.size, 0, none⟩ = some (.int .i64 so2) := u2.at_ 0
      have m0 : (w6.alloc (.cells #[.int .i64 so2, .bool bl2, .int .u64 (nn2 : Nat), .string S2] 64)).cell? ⟨w.heap.size + 1, 0, none⟩ = some (.int .i64 0) := u3.at_ 0
      have n0 : (w6.alloc (.cells #[.int .i64 so2, .bool bl2, .int .u64 (nn2 : Nat), .string S2] 64)).cell? ⟨w.heap.size + 1 + 1, 0, none⟩ = some (.int .i64 0) := u4.at_ 0
      have f0 := u3.frozen 0
      have g0 := u4.frozen 0
      have x1 : (w6.alloc (.cells #[.int .i64 so2, .bool bl2, .int .u64 (nn2 : Nat), .string S2] 64)).cell? ⟨w5.heap.size, 1, none⟩ = some (.bool bl) := u1 1 _ rfl
      have y1 : (w6.alloc (.cells #[.int .i64 so2, .bool bl2, .int .u64 (nn2 : Nat), .string S2] 64)).cell? ⟨w6.heap.size, 1, none⟩ = some (.bool bl2) := u2.at_ 1
      have m1 : (w6.alloc (.cells #[.int .i64 so2, .bool bl2, .int .u64 (nn2 : Nat), .string S2] 64)).cell? ⟨w.heap.size + 1, 1, none⟩ = some (.bool false) := u3.at_ 1
      have n1 : (w6.alloc (.cells #[.int .i64 so2, .bool bl2, .int .u64 (nn2 : Nat), .string S2] 64)).cell? ⟨w.heap.size + 1 + 1, 1, none⟩ = some (.bool false) := u4.at_ 1
      have f1 := u3.frozen 1
      have g1 := u4.frozen 1
      have x2 : (w6.alloc (.cells #[.int .i64 so2, .bool bl2, .int .u64 (nn2 : Nat), .string S2] 64)).cell? ⟨w5.heap.size, 2, none⟩ = some (.int .u64 (nn : Nat)) := u1 2 _ rfl
      have y2 : (w6.alloc (.cells #[.int .i64 so2, .bool bl2, .int .u64 (nn2 : Nat), .string S2] 64)).cell? ⟨w6.heap.size, 2, none⟩ = some (.int .u64 (nn2 : Nat)) := u2.at_ 2
      have m2 : (w6.alloc (.cells #[.int .i64 so2, .bool bl2, .int .u64 (nn2 : Nat), .string S2] 64)).cell? ⟨w.heap.size + 1, 2, none⟩ = some (.int .u64 0) := u3.at_ 2
      have n2 : (w6.alloc (.cells #[.int .i64 so2, .bool bl2, .int .u64 (nn2 : Nat), .string S2] 64)).cell? ⟨w.heap.size + 1 + 1, 2, none⟩ = some (.int .u64 0) := u4.at_ 2
      have f2 := u3.frozen 2
      have g2 := u4.frozen 2
      have x3 : (w6.alloc (.cells #[.int .i64 so2, .bool bl2, .int .u64 (nn2 : Nat), .string S2] 64)).cell? ⟨w5.heap.size, 3, none⟩ = some (.string S) := u1 3 _ rfl
      have y3 : (w6.alloc (.cells #[.int .i64 so2, .bool bl2, .int .u64 (nn2 : Nat), .string S2] 64)).cell? ⟨w6.heap.size, 3, none⟩ = some (.string S2) := u2.at_ 3
      have m3 : (w6.alloc (.cells #[.int .i64 so2, .bool bl2, .int .u64 (nn2 : Nat), .string S2] 64)).cell? ⟨w.heap.size + 1, 3, none⟩ = some (.string ⟨#[]⟩) := u3.at_ 3
      have n3 : (w6.alloc (.cells #[.int .i64 so2, .bool bl2, .int .u64 (nn2 : Nat), .string S2] 64)).cell? ⟨w.heap.size + 1 + 1, 3, none⟩ = some (.string ⟨#[]⟩) := u4.at_ 3
      have f3 := u3.frozen 3
      have g3 := u4.frozen 3
      have E1 : Hid (CB (set4 (set4 (w6.alloc (.cells #[.int .i64 so2, .bool bl2, .int .u64 (nn2 : Nat), .string S2] 64)) (w.heap.size + 1) (.int .i64 so) (.bool bl) (.int .u64 (nn : Nat)) (.string S)) (w.heap.size + 1 + 1) (.int .i64 so2) (.bool bl2) (.int .u64 (nn2 : Nat)) (.string S2)).drew (w.heap.size + 1) 64 #[.int .i64 so, .bool bl, .int .u64 (nn : Nat), .string S] ∧ CB (set4 (set4 (w6.alloc (.cells #[.int .i64 so2, .bool bl2, .int .u64 (nn2 : Nat), .string S2] 64)) (w.heap.size + 1) (.int .i64 so) (.bool bl) (.int .u64 (nn : Nat)) (.string S)) (w.heap.size + 1 + 1) (.int .i64 so2) (.bool bl2) (.int .u64 (nn2 : Nat)) (.string S2)).drew (w.heap.size + 1 + 1) 64 #[.int .i64 so2, .bool bl2, .int .u64 (nn2 : Nat), .string S2] ∧ Below w.heap.size w (set4 (set4 (w6.alloc (.cells #[.int .i64 so2, .bool bl2, .int .u64 (nn2 : Nat), .string S2] 64)) (w.heap.size + 1) (.int .i64 so) (.bool bl) (.int .u64 (nn : Nat)) (.string S)) (w.heap.size + 1 + 1) (.int .i64 so2) (.bool bl2) (.int .u64 (nn2 : Nat)) (.string S2)).drew) := means_stored u3 u4 (by omega) rfl rfl (by omega) (by omega) u5
      have E2 : Hid (CB (set4 (set4 (w6.alloc (.cells #[.int .i64 so2, .bool bl2, .int .u64 (nn2 : Nat), .string S2] 64)) (w.heap.size + 1 + 1) (.int .i64 so2) (.bool bl2) (.int .u64 (nn2 : Nat)) (.string S2)) (w.heap.size + 1) (.int .i64 so) (.bool bl) (.int .u64 (nn : Nat)) (.string S)).drew (w.heap.size + 1 + 1) 64 #[.int .i64 so2, .bool bl2, .int .u64 (nn2 : Nat), .string S2] ∧ CB (set4 (set4 (w6.alloc (.cells #[.int .i64 so2, .bool bl2, .int .u64 (nn2 : Nat), .string S2] 64)) (w.heap.size + 1 + 1) (.int .i64 so2) (.bool bl2) (.int .u64 (nn2 : Nat)) (.string S2)) (w.heap.size + 1) (.int .i64 so) (.bool bl) (.int .u64 (nn : Nat)) (.string S)).drew (w.heap.size + 1) 64 #[.int .i64 so, .bool bl, .int .u64 (nn : Nat), .string S] ∧ Below w.heap.size w (set4 (set4 (w6.alloc (.cells #[.int .i64 so2, .bool bl2, .int .u64 (nn2 : Nat), .string S2] 64)) (w.heap.size + 1 + 1) (.int .i64 so2) (.bool bl2) (.int .u64 (nn2 : Nat)) (.string S2)) (w.heap.size + 1) (.int .i64 so) (.bool bl) (.int .u64 (nn : Nat)) (.string S)).drew) := means_stored u4 u3 (by omega) rfl rfl (by omega) (by omega) u5
      have d5 : w.heap.size + 1 + 1 < w5.heap.size := by omega
      have d6 : w.heap.size + 1 + 1 < w6.heap.size := by have := hb6.size; simp only [World.size_alloc] at this; omega
      have v1 : w5.heap.size ≠ w.heap.size + 1 := by omega
      have v2 : w5.heap.size ≠ w.heap.size + 1 + 1 := by omega
      have v3 : w6.heap.size ≠ w.heap.size + 1 := by omega
      have v4 : w6.heap.size ≠ w.heap.size + 1 + 1 := by omega
      clear u1 u2 u3 u4 u5 H6 h7 h8 hb6 H5 H4 CK CR WX CS ZX KX
      go_wp2
      go_region
      all_goals
        go_wp2
        refine bodyPost_ret (v := .tuple #[.agg #[.int .i64 so, .bool bl, .int .u64 (nn : Nat), .string S], .agg #[.int .i64 so2, .bool bl2, .int .u64 (nn2 : Nat), .string S2]]) (results_cc rfl _ _ (w.heap.size + 1) (w.heap.size + 1 + 1) #[.int .i64 so, .bool bl, .int .u64 (nn : Nat), .string S] #[.int .i64 so2, .bool bl2, .int .u64 (nn2 : Nat), .string S2] rfl rfl ?_ ?_ Tryd.underlying64 rfl (by kernel_rfl) (by kernel_rfl)) rfl ⟨rfl, ?_⟩
        · first | (with_reducible exact E1.out.1) | (with_reducible exact E2.out.2.1)
        · first | (with_reducible exact E1.out.2.1) | (with_reducible exact E2.out.1)
        · first | (with_reducible exact E1.out.2.2) | (with_reducible exact E2.out.2.2)
end Go.Proofs.YtmbiompmhaiehaaDoor
