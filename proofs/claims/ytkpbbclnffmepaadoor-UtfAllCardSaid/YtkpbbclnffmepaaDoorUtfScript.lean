/- A script in memory: texts and numbers; the walk of much. -/
import Derived.Test.YtkpbbclnffmepaaDoorUtfRMend
import Derived.Test.YtkpbbclnffmepaaDoorStructs
namespace Go.Proofs.YtkpbbclnffmepaaDoor
open Go.Joins Go.ChangeShapes Go.WideShapes Go.Deep Go.RowKit

/-- at the address A stand these texts and numbers, below block B -/
def Ops (w : World) (B : Nat) (A : Option Addr) (l : List (ByteArray × Int)) : Prop :=
  ∀ (i : Nat) (r : ByteArray × Int), l[i]? = some r → ∃ g o, A = some ⟨g, o, none⟩ ∧ g < B ∧ w.cell? ⟨g, o + i * 2, none⟩ = some (.string r.1) ∧ w.cell? ⟨g, o + i * 2 + 1, none⟩ = some (.int .i64 r.2) ∧ r.1.size ≤ 140737488351232

section
variable {H : Type} {enc : TypeId × Value → H} {w : World}
theorem open_ops {base : Nat} {v : Value} {d : DataW H} {p : List MemPlace} (hval : Value.okWide Tryd.prog w .any base 22 v)
    (h : DataW.Trod enc Tryd.prog w 0 (fun _ => true) true 22 v d p) (hw : ∀ n ∈ d.weights Tryd.prog 22, n ≤ reachBytes) :
    ∃ A c l, v = .slice A (List.length l) c ∧ Ops w w.heap.size A l ∧ l.length ≤ 140737488351232 := by
  obtain ⟨a1, len1, cap1, rfl⟩ := okWide_slice Tryd.underlying22 hval
  obtain ⟨fuel, hf⟩ := h
  rcases open_slice_fields Tryd.underlying22 Tryd.underlying26 (by kernel_rfl) (by kernel_rfl) hf with ⟨hcs, _⟩ | ⟨a, len, cap, m, D, Pl, hcs, _, hle, hm, hmm, hx, hfl⟩
  · simp [Value.cells] at hcs
    obtain ⟨rfl, rfl, rfl⟩ := hcs
    exact ⟨none, 0, [], rfl, fun i r hr => by simp at hr, by simp⟩
  · simp [Value.cells] at hcs
    obtain ⟨rfl, rfl, rfl⟩ := hcs
    simp only [Prod.mk.injEq] at hx
    obtain ⟨rfl, _⟩ := hx
    simp only [if_true] at hmm
    subst hmm
    have hB : Tryd.prog.bytesOf 26 = 24 := by kernel_rfl
    have hwl := hw _ (weight_len Tryd.underlying22)
    rw [hB] at hwl
    simp only [List.length_map, List.length_range] at hwl
    have hr47 : reachBytes ≤ 140737488351232 := by decide
    have hall : ∀ i, i < len1 → ∃ r : ByteArray × Int, ∃ g o, some a = some ⟨g, o, none⟩ ∧ g < w.heap.size ∧ w.cell? ⟨g, o + i * 2, none⟩ = some (.string r.1) ∧ w.cell? ⟨g, o + i * 2 + 1, none⟩ = some (.int .i64 r.2) ∧ r.1.size ≤ 140737488351232 := by
      intro i hi
      obtain ⟨ys, k, hD, _, _, hfld⟩ := hfl i (by omega)
      obtain ⟨v0, y0, c0, e0, t0⟩ := hfld 0 _ rfl
      obtain ⟨v1, y1, c1, _, t1⟩ := hfld 1 _ rfl
      obtain ⟨s0, q0, hy0, _⟩ := DataW.trod_string Tryd.underlying9 t0
      obtain ⟨n1, q1, _, _⟩ := DataW.trod_int Tryd.underlying3 t1
      simp only [List.cons.injEq, and_true] at q0 q1
      subst q0 q1
      obtain ⟨g, o, spot⟩ := a
      obtain ⟨_, _, _, _, _, hfld0⟩ := hfl 0 (by omega)
      obtain ⟨_, _, c00, _, _⟩ := hfld0 0 _ rfl
      have hspot : spot = none := by simpa [Addr.add] using World.cell?_spot c00
      subst hspot
      have a0 : w.cell? ⟨g, o + i * 2, none⟩ = some (.string s0) := by rw [show o + i * 2 = o + (i * 2 + 0) from rfl, ← add_plain]; exact c0
      have a1 : w.cell? ⟨g, o + (i * 2 + 1), none⟩ = some (.int .i64 n1) := by rw [← add_plain]; exact c1
      have hsz : s0.data.toList.length ≤ reachBytes := by
        refine hw _ (weight_field (elems := (List.range len1).map D) (parts := ys.map (·.1)) (j := 0) Tryd.underlying22 Tryd.underlying26 ?_ rfl ?_)
        · rw [← hD]
          exact List.mem_map.2 ⟨i, List.mem_range.2 hi, rfl⟩
        · rw [List.getElem?_map, e0, hy0]
          rfl
      rw [← Lib.size_eq] at hsz
      exact ⟨⟨s0, n1⟩, g, o, rfl, World.block_lt_of_cell? w ⟨g, _, none⟩ a0, a0, a1, by show s0.size ≤ _; omega⟩
    obtain ⟨l, hl, hq⟩ := list_of _ len1 hall
    exact ⟨some a, m, l, by rw [hl], hq, by omega⟩
end

/-- all bytes of the texts -/
def tot : List (ByteArray × Int) → Nat
  | [] => 0
  | r :: l => r.1.size + tot l
theorem tot_at {l : List (ByteArray × Int)} {i : Nat} {r : ByteArray × Int} (h : l[i]? = some r) : tot (l.drop i) = r.1.size + tot (l.drop (i + 1)) := by
  obtain ⟨hi, hr⟩ := List.getElem?_eq_some_iff.1 h
  rw [List.drop_eq_getElem_cons hi, hr]
  rfl
theorem tot_le {r : ByteArray × Int} : ∀ {l : List (ByteArray × Int)}, r ∈ l → r.1.size ≤ tot l
  | x :: l, h => by
    show _ ≤ x.1.size + tot l
    rcases List.mem_cons.1 h with rfl | h
    · omega
    · have := tot_le h; omega

set_option maxRecDepth 100000 in
set_option maxHeartbeats 1000000 in
theorem much_any {w0 w : World} (h : St w0 w) {A : Option Addr} {l : List (ByteArray × Int)} (c : Nat) (hA : Ops w w.heap.size A l) (hl : l.length ≤ 140737488351232) :
    Calls Tryd.prog 10 #[.slice A l.length c] w fun e w' => e = .returned (.bool (decide (16777216 < tot l))) ∧ w' = w := by
  have HA := Lib.hid hA
  clear hA
  go_enter Tryd.func10, Tryd.ntmps10
  go_wp2
  go_loopw [3, 4] (fun vn vi wr => wr = w ∧ ∃ n i : Nat, vn = .int .i64 n ∧ vi = .int .i64 i ∧ i ≤ l.length ∧ n ≤ 140737505128448 ∧ Hid (n + tot (l.drop i) = tot l)) (fun _ vi _ => l.length - (intOf vi).toNat)
  case atStart => exact ⟨rfl, 0, 0, rfl, rfl, Nat.zero_le _, Nat.zero_le _, by unfold Hid; simp⟩
  case round =>
    obtain ⟨rfl, n, i, rfl, rfl, hi, hn, HT⟩ := hrel
    by_cases hlt : i < l.length
    · by_cases hbig : 16777216 < n
      · have hbz : ¬ ((n : Int) ≤ 16777216) := by omega
        go_wp2
        go_ret
        exact ⟨ret_bool (by have := HT.out; simp; omega), rfl⟩
      · obtain ⟨r, hr⟩ : ∃ r, l[i]? = some r := ⟨l[i], List.getElem?_eq_getElem hlt⟩
        obtain ⟨g, o, rfl, hg, h0, _, hs⟩ := HA.out i r hr
        have HTT := Lib.hid (tot_at hr)
        obtain ⟨s, hs'⟩ : ∃ s, r.1 = s := ⟨_, rfl⟩
        rw [hs'] at h0 hs HTT
        have hltz : (i : Int) < (l.length : Int) := by omega
        clear hr hs'
        go_wp2
        go_roundw
        case rel => exact ⟨by trivial, n + s.size, i + 1, by go_num, by go_num, by omega, by omega, by have := HT.out; rw [HTT.out] at this; unfold Hid; omega⟩
        case measure => simp [intOf]; omega
    · go_wp2
      go_ret
      have := HT.out
      rw [List.drop_eq_nil_of_le (by omega)] at this
      exact ⟨ret_bool (by have e : tot [] = 0 := rfl; rw [e] at this; simp; omega), rfl⟩
end Go.Proofs.YtkpbbclnffmepaaDoor
