/- What stands while a cat's kids are reckoned: the texts so far, the builder. No walk here. -/
import Derived.Test.YtpgljmkemmikhaaDoorExAr
import Derived.Test.YtpgljmkemmikhaaDoorExGp
import Derived.Lib.OthersKept
namespace Go.Proofs.YtpgljmkemmikhaaDoor
open Go.RowKit
open Go.Lib (byteCells)

/-- put together till there is more than a text may have -/
def greedy : List (List UInt8) → List UInt8 → List UInt8
  | [], L => L
  | s :: r, L => greedy r (if L.length ≤ 4096 then L ++ s else L)
theorem greedy_snoc : ∀ (l : List (List UInt8)) (s L : List UInt8), greedy (l ++ [s]) L = if (greedy l L).length ≤ 4096 then greedy l L ++ s else greedy l L
  | [], _, _ => rfl
  | _ :: r, s, _ => greedy_snoc r s _
theorem greedy_big : ∀ (l : List (List UInt8)) (L : List UInt8), 4096 < L.length → greedy l L = L
  | [], _, _ => rfl
  | _ :: r, L, h => by
    unfold greedy
    rw [if_neg (by omega)]
    exact greedy_big r L h
theorem greedy_or : ∀ (l : List (List UInt8)) (L : List UInt8), greedy l L = L ++ l.flatten ∨ (4096 < (greedy l L).length ∧ 4096 < (L ++ l.flatten).length)
  | [], L => .inl (by simp [greedy])
  | a :: r, L => by
    unfold greedy
    by_cases h : L.length ≤ 4096
    · rw [if_pos h]
      rcases greedy_or r (L ++ a) with h1 | h1
      · left; rw [h1]; simp
      · right
        refine ⟨h1.1, ?_⟩
        have := h1.2
        simp only [List.flatten_cons, List.length_append] at this ⊢
        omega
    · rw [if_neg h]
      right
      rw [greedy_big r L (by omega)]
      refine ⟨by omega, ?_⟩
      rw [List.length_append]
      omega
theorem greedy_le : ∀ (l : List (List UInt8)) (L : List UInt8), L.length ≤ 8192 → (∀ s ∈ l, s.length ≤ 4096) → (greedy l L).length ≤ 8192
  | [], L, h, _ => h
  | a :: r, L, h, hl => by
    unfold greedy
    refine greedy_le r _ ?_ fun s hs => hl s (.tail _ hs)
    have := hl a (.head _)
    split
    · rw [List.length_append]; omega
    · exact h
theorem textE_greedy (r : Nat) (l : List (List UInt8)) : endO r (textE (greedy l [])) = endO r (textE l.flatten) := by
  rcases greedy_or l [] with h | ⟨h1, h2⟩
  · rw [h]; rfl
  · unfold textE
    rw [if_neg (by omega), if_neg (by simpa using h2)]
/-- what cat answers -/
def catEnd (r : Nat) (rs : List Res) : Ending := match collect rs with
  | .error (a, e) => .panicked [faultV a e]
  | .ok ts => endO r (if ts.all Th.isT then textE (rowL (ts.map Th.s)) else .error 110)
theorem catEnd_err {r : Nat} {rs : List Res} {ts : List Th} {i a e : Nat} (h : rs.take i = ts.map .ok) (hi : rs[i]? = some (.error (a, e))) : catEnd r rs = .panicked [faultV a e] := by
  have hlt := (List.getElem?_eq_some_iff.1 hi).1
  have hs : rs = ts.map .ok ++ (.error (a, e) :: rs.drop (i + 1)) := by
    have h1 := List.take_append_drop i rs
    rw [h, List.drop_eq_getElem_cons hlt, (List.getElem?_eq_some_iff.1 hi).2] at h1
    exact h1.symm
  unfold catEnd
  rw [hs, collect_append, collect_ok]
  rfl
theorem catEnd_ok {r : Nat} {rs : List Res} {ts : List Th} (h : rs = ts.map .ok) : catEnd r rs = endO r (if ts.all Th.isT then textE (greedy (ts.map Th.s) []) else .error 110) := by
  unfold catEnd
  rw [h, collect_ok]
  dsimp only
  split
  · rw [textE_greedy]; rfl
  · rfl
theorem take_succ_ok {rs : List Res} {ts : List Th} {i : Nat} {t : Th} (h : rs.take i = ts.map .ok) (hi : rs[i]? = some (.ok t)) : rs.take (i + 1) = (ts ++ [t]).map .ok := by
  have hlt := (List.getElem?_eq_some_iff.1 hi).1
  rw [List.take_succ_eq_append_getElem hlt, h, (List.getElem?_eq_some_iff.1 hi).2]
  simp

/-! ### the builder -/
/-- the builder in block b, of the call's own from b on -/
def Bf (b : Nat) (l : List UInt8) (w : World) : Prop := Lib.IsBuilderF 126 5 b b (byteCells l) w
theorem Bf.new (w : World) : Bf w.heap.size [] (w.alloc (.cells #[.pointer none, .slice none 0 0] 126)) := Lib.IsBuilderF.of (Lib.fresh_isBuilder _ _ w)
theorem bf_at {T e : TypeId} {B b : Nat} {p : Value} {bs : List Value} {w w' : World} (h : Lib.BuilderAtF T e B b p bs w) (hb : Below w.heap.size w w') : Lib.BuilderAtF T e B b p bs w' := by
  have hlt : b < w.heap.size := by
    obtain ⟨_, v, hc, _⟩ := h
    exact (Array.getElem?_eq_some_iff.1 hc).1
  obtain ⟨hB, v, hc, hown, hne⟩ := h
  refine ⟨hB, v, (hb.block b hlt).trans hc, hown.kept (row := none) (below_grown hb none) ?_, hne⟩
  cases hv : v.ownBlock with
  | none => exact .inl rfl
  | some g => exact .inr nofun
theorem Bf.then_ {b : Nat} {l : List UInt8} {w w' : World} (h : Bf b l w) (hb : Below w.heap.size w w') : Bf b l w' := h.elim (fun x => .inl (bf_at x hb)) fun x => .inr (bf_at x hb)
theorem Bf.len {b : Nat} {l : List UInt8} {w : World} (h : Bf b l w) : b < w.heap.size := by
  rcases h with ⟨_, v, hc, _⟩ | ⟨_, v, hc, _⟩
  · exact (Array.getElem?_eq_some_iff.1 hc).1
  · exact (Array.getElem?_eq_some_iff.1 hc).1
theorem Bf.write {b : Nat} {l : List UInt8} {w : World} (h : Bf b l w) (s : ByteArray) (hN : l.length + s.size ≤ 140737488355328) (r : List UInt8) (hr : r = l ++ ls s) :
    Calls Tryd.prog 90 #[.pointer (some ⟨b, 0, none⟩), .string s] w fun e w' => e = .returned (.tuple #[.int .i64 s.size, .nilIface]) ∧ Bf b r w' ∧ Below b w w' ∧ Lib.OthersKept 5 (some b) w w' := by
  refine (Any.Builder_WriteString_k (ρ := bren) blays bxtra b b (byteCells l) s w h (by rw [Go.Lib.byteCells_length]; exact hN) (Nat.le_of_lt h.len)).mono ?_
  rintro e w' ⟨rfl, h1, h2, h3⟩
  rw [strCells_ls, ← Go.Lib.byteCells_append, ← hr] at h1
  exact ⟨rfl, .inr h1, h2, h3⟩
theorem Bf.out {b : Nat} {l : List UInt8} {w : World} (h : Bf b l w) :
    Calls Tryd.prog 91 #[.pointer (some ⟨b, 0, none⟩)] w fun e w' => e = .returned (.string (str l)) ∧ Below b w w' := by
  refine (Tryd.Builder_String_any_k b b l w h (Nat.le_of_lt h.len)).mono ?_
  rintro e w' ⟨he, _, h2, _⟩
  exact ⟨he, h2⟩
theorem Bf.size {b : Nat} {l : List UInt8} {w : World} (h : Bf b l w) :
    Calls Tryd.prog 89 #[.pointer (some ⟨b, 0, none⟩)] w fun e w' => e = .returned (.int .i64 (l.length : Nat)) ∧ w' = w := by
  have := Tryd.Builder_Len_f b b (byteCells l) w h
  rw [Go.Lib.byteCells_length] at this
  exact this
theorem cb_kept {w w' : World} {b g : Nat} {T : TypeId} {cs : Array Value} (h : CB w g T cs) (hk : Lib.OthersKept 5 (some b) w w') (hg : g ≠ b) (hT : T ≠ 5) : CB w' g T cs :=
  hk g _ h (fun e => hg (Option.some.inj e)) fun c fz e => by injection e with _ e2 _; exact hT e2
theorem kr_kept {w w' : World} {b gk x : Nat} {l : List Nat} (h : KR w gk x l) (hk : Lib.OthersKept 5 (some b) w w') (hg : gk ≠ b) : KR w' gk x l := by
  obtain ⟨cur, h1, h2⟩ := h
  exact ⟨cur, cb_kept h1 hk hg (by decide), h2⟩
/-- a subtree's block, a thing's, a builder's -/
theorem cat_start (w : World) (x r : Nat) : ∃ w3, ((w.alloc (.cells #[.pointer (some ⟨x, 0, none⟩), .int .i64 (r : Nat)] 52)).alloc (.cells #[.int .i64 0, .bool false, .int .u64 0, .string ⟨#[]⟩] 75)).alloc (.cells #[.pointer none, .slice none 0 0] 126) = w3 ∧ Below w.heap.size w w3 ∧ w3.heap.size = w.heap.size + 3 ∧
    CB w3 w.heap.size 52 #[.pointer (some ⟨x, 0, none⟩), .int .i64 (r : Nat)] ∧ CB w3 (w.heap.size + 1) 75 #[.int .i64 0, .bool false, .int .u64 0, .string ⟨#[]⟩] ∧ Bf (w.heap.size + 1 + 1) [] w3 := by
  obtain ⟨w2, hw2, b2, s2, k0, k1⟩ := sub_mean w x r
  rw [hw2]
  have b3 : Below w2.heap.size w2 (w2.alloc (.cells #[.pointer none, .slice none 0 0] 126)) := (Below.refl _ w2).alloc (Nat.le_refl _) _
  refine ⟨_, rfl, b2.trans (b3.mono (by omega)), by simp [s2], k0.below b3, k1.below b3, ?_⟩
  rw [show w.heap.size + 1 + 1 = w2.heap.size by omega]
  exact Bf.new w2
end Go.Proofs.YtpgljmkemmikhaaDoor
