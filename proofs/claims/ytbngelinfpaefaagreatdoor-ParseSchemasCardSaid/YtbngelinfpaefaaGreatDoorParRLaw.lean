/- The walks of the statements of the whole: texts by the reference and by the code. -/
import Derived.Test.YtbngelinfpaefaaGreatDoorTxsOpen
import Derived.Test.YtbngelinfpaefaaGreatDoorParRSch
import Derived.Test.YtbngelinfpaefaaGreatDoorParBrkP
namespace Go.Proofs.YtbngelinfpaefaaGreatDoor
open Go.RowKit

/-- the law answers true -/
abbrev YesR (W : World) : Ending → World → Prop := fun e w' => e = .returned (.bool true) ∧ Below W.heap.size W w'

def SomeT (w : World) (e : Ending) (w' : World) : Prop := ∃ b, e = .returned (.bool b) ∧ w = w'
set_option maxRecDepth 100000 in
set_option maxHeartbeats 4000000 in
theorem cmuch_any {w : World} {A : Option Addr} {c : Nat} {ss : List ByteArray} (h : Txs w w.heap.size A ss) (hl : ss.length ≤ 9223372036854775807) (hs : ∀ s ∈ ss, s.size ≤ 9223372036854775807 / 2) :
    Calls Tryz.prog 8 #[.slice A ss.length c] w (SomeT w) := by
  have HT := Lib.hid h
  clear h
  go_enter Tryz.func8, Tryz.ntmps8
  go_wp2
  go_loopw [3, 4] (fun u v wr => ∃ (n i : Nat), u = .int .i64 n ∧ v = .int .i64 i ∧ i ≤ ss.length ∧ n ≤ 5000000000000000000 ∧ w = wr) (fun _ v _ => ss.length - (intOf v).toNat)
  case atStart => exact ⟨0, 0, rfl, rfl, Nat.zero_le _, by omega, rfl⟩
  case round =>
    obtain ⟨n, i, rfl, rfl, hil, hn, rfl⟩ := hrel
    by_cases hlt : i < ss.length
    · have hiz : (i : Int) < (ss.length : Int) := by omega
      have hi0 : (0 : Int) ≤ (i : Int) := by omega
      by_cases hnb : n ≤ 16777216
      · have hnz : (n : Int) ≤ 16777216 := by omega
        obtain ⟨b, o, rfl, hb, hcell⟩ := HT.out.at_ (by omega)
        have hc := hcell i hlt
        have hsz := hs _ (List.getElem_mem hlt)
        obtain ⟨s, hse⟩ : ∃ s, ss[i] = s := ⟨_, rfl⟩
        rw [hse] at hc hsz
        clear hcell hse
        go_wp2
        go_roundw
        case rel => exact ⟨n + s.size, i + 1, by go_num, by go_num, by omega, by omega, trivial⟩
        case measure => simp [intOf]; omega
      · have hnz : ¬ (n : Int) ≤ 16777216 := by omega
        go_wp2
        go_ret
        exact ⟨_, rfl, rfl⟩
    · obtain rfl : i = ss.length := by omega
      have hiz : ¬ (ss.length : Int) < (ss.length : Int) := by omega
      go_wp2
      go_ret
      exact ⟨_, rfl, rfl⟩

/-- a text as an expression, by whoever reads it -/
def VAns (s : ByteArray) (N : List Nd) (a x : Nat) : Prop := (valS s).nds = N ∧ (valS s).plc = a ∧ (valS s).err = x
theorem cval_ans {s : ByteArray} {N : List Nd} {a x : Nat} (h : VAns s N a x) (w : World) (hk : EV w) : Calls Tryz.prog 12 #[.string s] w fun e w' => ∃ An cn, e = .returned (.tuple #[.slice An N.length cn, .int .i64 (a : Nat), .int .i64 (x : Nat)]) ∧ Below w.heap.size w w' ∧ Hid (NRow w' w'.heap.size An N ∧ N.length ≤ 9223372036854775807) := by
  obtain ⟨rfl, rfl, rfl⟩ := h
  refine (cvalue_any w s hk).mono ?_
  rintro e w' ⟨An, cn, rfl, hb, ho⟩
  exact ⟨An, cn, rfl, hb, ho.reads, own_few ho⟩
theorem rval_ans {s : ByteArray} {N : List Nd} {a x : Nat} (h : VAns s N a x) (w : World) : Calls Tryz.prog 13 #[.string s] w fun e w' => ∃ An cn, e = .returned (.tuple #[.slice An N.length cn, .int .i64 (a : Nat), .int .i64 (x : Nat)]) ∧ Below w.heap.size w w' ∧ Hid (NRow w' w'.heap.size An N ∧ N.length ≤ 9223372036854775807) := by
  obtain ⟨rfl, rfl, rfl⟩ := h
  refine (rvalueT_any w s).mono ?_
  rintro e w' ⟨An, cn, rfl, hb, ho⟩
  exact ⟨An, cn, rfl, hb, ho.reads, own_few ho⟩

set_option maxRecDepth 100000 in
set_option maxHeartbeats 4000000 in
theorem values_any (W : World) (hk : EV W) {A : Option Addr} {c : Nat} {ss : List ByteArray} (h : Txs W W.heap.size A ss) (hl : ss.length ≤ 9223372036854775807) (hs : ∀ s ∈ ss, s.size ≤ 140737488351232) :
    Calls Tryz.prog 4 #[.slice A ss.length c] W (YesR W) := by
  have HT := Lib.hid h
  have HK := Lib.hid hk
  have HS := Lib.hid hs
  have ca := cawake_any W hk
  unfold YesR
  clear h hk hs
  go_enter Tryz.func4, Tryz.ntmps4
  go_wp2_with (first
    | (go_at_call 7; refine ca.mono ?_; rintro e w2 ⟨rfl, hb2⟩)
    | (go_at_call 8; refine (cmuch_any ((HT.out.below hb2).grow hb2.size) hl (fun s hs => by have := HS.out s hs; omega)).mono ?_; rintro e w3 ⟨b, rfl, rfl⟩))
  · go_ret
    exact ⟨rfl, hb2⟩
  · obtain rfl : b = false := by assumption
    have h0 := hb2
    clear hb2
    go_loopw [3, 4] (fun u v wr => ∃ (i : Nat), u = .bool true ∧ v = .int .i64 i ∧ i ≤ ss.length ∧ Below W.heap.size W wr) (fun _ v _ => ss.length - (intOf v).toNat)
    case atStart => exact ⟨0, rfl, rfl, Nat.zero_le _, h0⟩
    case round =>
      clear h0
      obtain ⟨i, rfl, rfl, hil, hbr⟩ := hrel
      by_cases hlt : i < ss.length
      · have hiz : (i : Int) < (ss.length : Int) := by omega
        have hi0 : (0 : Int) ≤ (i : Int) := by omega
        obtain ⟨g, o, rfl, hb, hcell⟩ := HT.out.at_ (by omega)
        have hc := hcell i hlt
        have hsz := HS.out _ (List.getElem_mem hlt)
        obtain ⟨s, hse⟩ : ∃ s, ss[i] = s := ⟨_, rfl⟩
        rw [hse] at hc hsz
        have hcr : wr.cell? ⟨g, o + i, none⟩ = some (.string s) := (hbr.cell (p := ⟨g, o + i, none⟩) hb).trans hc
        obtain ⟨N, a, x, hV⟩ : ∃ N a x, VAns s N a x := ⟨_, _, _, rfl, rfl, rfl⟩
        have CC := Lib.hid (cval_ans hV wr (HK.out.below hbr))
        have CR := Lib.hid (fun w => rval_ans hV w)
        have hrl := val_more s (by omega)
        rw [hV.1] at hrl
        have HR := Lib.hid hrl
        clear hcell hse hc hV hrl
        have hbl := hbr.size
        go_wp2_with (first
          | (go_at_call 12; refine CC.out.mono ?_; rintro e w4 ⟨An, cn, rfl, hb4, H4⟩; have hc4 : w4.cell? ⟨g, o + i, none⟩ = some (.string s) := (hb4.cell (p := ⟨g, o + i, none⟩) (Nat.lt_of_lt_of_le hb hbl)).trans hcr)
          | (go_at_call 13; refine (CR.out w4).mono ?_; rintro e w5 ⟨Bn, dn, rfl, hb5, H5⟩)
          | (go_at_call 14; refine (nodes_any 0 true (H4.out.1.then_ hb5) H5.out.1 HR.out H4.out.2).mono ?_; rintro e w6 ⟨rfl, hb6⟩))
        go_roundw
        case rel => exact ⟨i + 1, rfl, by go_num, by omega, Below.both (Below.both (Below.both hbr hb4) hb5) hb6⟩
        case measure => simp [intOf]; omega
      · obtain rfl : i = ss.length := by omega
        have hiz : ¬ (ss.length : Int) < (ss.length : Int) := by omega
        go_wp2
        go_ret
        exact ⟨rfl, hbr⟩

/-- a text as a schema, by whoever reads it -/
def SAns (s : ByteArray) (a x : Nat) : Prop := (schS s).plc = a ∧ (schS s).err = x
theorem csch_ans {s : ByteArray} {a x : Nat} (h : SAns s a x) (w : World) (hk : EV w) : Calls Tryz.prog 9 #[.string s] w fun e w' => ∃ As cs, ∃ es : List LEv, e = .returned (.tuple #[.agg #[.slice As es.length cs], .int .i64 (a : Nat), .int .i64 (x : Nat)]) ∧ Below w.heap.size w w' ∧ Hid (RdE w' As es ∧ es.length ≤ 9223372036854775807 ∧ es.map (·.ev) = (schS s).evs) := by
  obtain ⟨rfl, rfl⟩ := h
  refine (cschema_any w s hk).mono ?_
  rintro e w' ⟨As, cs, es, rfl, hb, ho, hm⟩
  exact ⟨As, cs, es, rfl, hb, RdE.of ho, own_few ho.own, hm⟩
theorem rsch_ans {s : ByteArray} {a x : Nat} (h : SAns s a x) (w : World) : Calls Tryz.prog 10 #[.string s] w fun e w' => ∃ As cs, ∃ es : List LEv, e = .returned (.tuple #[.agg #[.slice As es.length cs], .int .i64 (a : Nat), .int .i64 (x : Nat)]) ∧ Below w.heap.size w w' ∧ Hid (RdE w' As es ∧ es.length ≤ 9223372036854775807 ∧ es.map (·.ev) = (schS s).evs) := by
  obtain ⟨rfl, rfl⟩ := h
  refine (rschema_any w s).mono ?_
  rintro e w' ⟨As, cs, es, rfl, hb, ho, hm⟩
  exact ⟨As, cs, es, rfl, hb, RdE.of ho, own_few ho.own, hm⟩

set_option maxRecDepth 100000 in
set_option maxHeartbeats 4000000 in
theorem schemas_any (W : World) (hk : EV W) {A : Option Addr} {c : Nat} {ss : List ByteArray} (h : Txs W W.heap.size A ss) (hl : ss.length ≤ 9223372036854775807) (hs : ∀ s ∈ ss, s.size ≤ 140737488351232) :
    Calls Tryz.prog 3 #[.slice A ss.length c] W (YesR W) := by
  have HT := Lib.hid h
  have HK := Lib.hid hk
  have HS := Lib.hid hs
  have ca := cawake_any W hk
  unfold YesR
  clear h hk hs
  go_enter Tryz.func3, Tryz.ntmps3
  go_wp2_with (first
    | (go_at_call 7; refine ca.mono ?_; rintro e w2 ⟨rfl, hb2⟩)
    | (go_at_call 8; refine (cmuch_any ((HT.out.below hb2).grow hb2.size) hl (fun s hs => by have := HS.out s hs; omega)).mono ?_; rintro e w3 ⟨b, rfl, rfl⟩))
  · go_ret
    exact ⟨rfl, hb2⟩
  · obtain rfl : b = false := by assumption
    have h0 := hb2
    clear hb2
    go_loopw [3, 4] (fun u v wr => ∃ (i : Nat), u = .bool true ∧ v = .int .i64 i ∧ i ≤ ss.length ∧ Below W.heap.size W wr) (fun _ v _ => ss.length - (intOf v).toNat)
    case atStart => exact ⟨0, rfl, rfl, Nat.zero_le _, h0⟩
    case round =>
      clear h0
      obtain ⟨i, rfl, rfl, hil, hbr⟩ := hrel
      by_cases hlt : i < ss.length
      · have hiz : (i : Int) < (ss.length : Int) := by omega
        have hi0 : (0 : Int) ≤ (i : Int) := by omega
        obtain ⟨g, o, rfl, hb, hcell⟩ := HT.out.at_ (by omega)
        have hc := hcell i hlt
        have hsz := HS.out _ (List.getElem_mem hlt)
        obtain ⟨s, hse⟩ : ∃ s, ss[i] = s := ⟨_, rfl⟩
        rw [hse] at hc hsz
        have hcr : wr.cell? ⟨g, o + i, none⟩ = some (.string s) := (hbr.cell (p := ⟨g, o + i, none⟩) hb).trans hc
        obtain ⟨a, x, hV⟩ : ∃ a x, SAns s a x := ⟨_, _, rfl, rfl⟩
        have CC := Lib.hid (csch_ans hV wr (HK.out.below hbr))
        have CR := Lib.hid (fun w => rsch_ans hV w)
        clear hcell hse hc hV
        have hbl := hbr.size
        go_wp2_with (first
          | (go_at_call 9; refine CC.out.mono ?_; rintro e w4 ⟨As, cs, es, rfl, hb4, H4⟩; have hc4 : w4.cell? ⟨g, o + i, none⟩ = some (.string s) := (hb4.cell (p := ⟨g, o + i, none⟩) (Nat.lt_of_lt_of_le hb hbl)).trans hcr; have hgl : g < w4.heap.size := (by have := hb4.size; omega); have k4 := CB.new w4 27 #[.slice As es.length cs]; have b4 : Below w4.heap.size w4 (w4.alloc (.cells #[.slice As es.length cs] 27)) := (Below.refl _ w4).alloc (Nat.le_refl _) _; have hc4a : (w4.alloc (.cells #[.slice As es.length cs] 27)).cell? ⟨g, o + i, none⟩ = some (.string s) := (b4.cell (p := ⟨g, o + i, none⟩) hgl).trans hc4)
          | (go_at_call 10; refine (CR.out _).mono ?_; rintro e w5 ⟨Bs, ds, fs, rfl, hb5, H5⟩; have k5 := k4.below hb5; have b5 : Below w5.heap.size w5 (w5.alloc (.cells #[.slice Bs fs.length ds] 27)) := (Below.refl _ w5).alloc (Nat.le_refl _) _; have k6 := CB.new w5 27 #[.slice Bs fs.length ds]; have k7 := k5.below b5; have c7 : (w5.alloc (.cells #[.slice Bs fs.length ds] 27)).cell? ⟨w4.heap.size, 0, none⟩ = some (.slice As es.length cs) := k7.at_ 0; have c5 : w5.cell? ⟨w4.heap.size, 0, none⟩ = some (.slice As es.length cs) := k5.at_ 0; have hl5 := k5.len)
          | (go_at_call 11; refine (events_any 0 true (((H4.out.1.below b4).below hb5).below b5) (H5.out.1.below b5) (self_ev (s := s) (by omega) H4.out.2.2 H5.out.2.2) H4.out.2.1).mono ?_; rintro e w6 ⟨rfl, hb6⟩))
        go_roundw
        case rel => exact ⟨i + 1, rfl, by go_num, by omega, Below.both (Below.both (Below.both (Below.both (Below.both hbr hb4) b4) hb5) b5) hb6⟩
        case measure => simp [intOf]; omega
      · obtain rfl : i = ss.length := by omega
        have hiz : ¬ (ss.length : Int) < (ss.length : Int) := by omega
        go_wp2
        go_ret
        exact ⟨rfl, hbr⟩
end Go.Proofs.YtbngelinfpaefaaGreatDoor
