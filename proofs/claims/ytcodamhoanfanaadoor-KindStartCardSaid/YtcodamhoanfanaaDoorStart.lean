/- The reference's table of the start: the walk of Start. Its cells, list by list. -/
import Derived.Test.YtcodamhoanfanaaDoorProg
import Derived.Test.YtcodamhoanfanaaDoorBytMem
import Derived.Test.YtcodamhoanfanaaDoorArr
import Derived.Test.YtcodamhoanfanaaDoorOwn4
import Derived.Test.YtcodamhoanfanaaDoorBytApp
import Derived.BigCall
namespace Go.Proofs.YtcodamhoanfanaaDoor
open Go.RowKit

/-- the cells of the entries of list 1 of the table -/
def st1 : Array Value := #[.int .i64 1, .int .i64 1, .string ⟨#[117, 105, 110, 116]⟩, .int .i64 10, .int .i64 1, .int .i64 2, .string ⟨#[105, 110, 116]⟩, .int .i64 10, .int .i64 1, .int .i64 3, .string ⟨#[98, 111, 111, 108]⟩, .int .i64 1, .int .i64 1, .int .i64 4, .string ⟨#[116, 101, 120, 116]⟩, .int .i64 0, .int .i64 1, .int .i64 5, .string ⟨#[98, 121, 116, 101, 115]⟩, .int .i64 0]
/-- the cells of the entries of list 2 of the table -/
def st2 : Array Value := #[.int .i64 2, .int .i64 1, .string ⟨#[117, 105, 110, 116, 45, 105, 110, 116]⟩, .int .i64 10, .int .i64 2, .int .i64 2, .string ⟨#[105, 110, 116, 45, 117, 105, 110, 116]⟩, .int .i64 17, .int .i64 2, .int .i64 3, .string ⟨#[117, 105, 110, 116, 45, 116, 101, 120, 116]⟩, .int .i64 12, .int .i64 2, .int .i64 4, .string ⟨#[105, 110, 116, 45, 116, 101, 120, 116]⟩, .int .i64 20, .int .i64 2, .int .i64 5, .string ⟨#[116, 101, 120, 116, 45, 117, 105, 110, 116]⟩, .int .i64 33, .int .i64 2, .int .i64 6, .string ⟨#[116, 101, 120, 116, 45, 105, 110, 116]⟩, .int .i64 34]
/-- the cells of the entries of list 3 of the table -/
def st3 : Array Value := #[.int .i64 2, .int .i64 7, .string ⟨#[98, 111, 111, 108, 45, 116, 101, 120, 116]⟩, .int .i64 28, .int .i64 2, .int .i64 8, .string ⟨#[116, 101, 120, 116, 45, 98, 111, 111, 108]⟩, .int .i64 35, .int .i64 2, .int .i64 9, .string ⟨#[98, 111, 111, 108, 45, 117, 105, 110, 116]⟩, .int .i64 25, .int .i64 2, .int .i64 10, .string ⟨#[117, 105, 110, 116, 45, 98, 111, 111, 108]⟩, .int .i64 11, .int .i64 2, .int .i64 11, .string ⟨#[116, 101, 120, 116, 45, 98, 121, 116, 101, 115]⟩, .int .i64 37, .int .i64 2, .int .i64 12, .string ⟨#[98, 121, 116, 101, 115, 45, 116, 101, 120, 116]⟩, .int .i64 44]
/-- the cells of the entries of list 4 of the table -/
def st4 : Array Value := #[.int .i64 3, .int .i64 1, .string ⟨#[97, 100, 100]⟩, .int .i64 1, .int .i64 3, .int .i64 2, .string ⟨#[114, 101, 110, 97, 109, 101]⟩, .int .i64 2, .int .i64 3, .int .i64 3, .string ⟨#[115, 112, 108, 105, 116]⟩, .int .i64 3, .int .i64 3, .int .i64 4, .string ⟨#[106, 111, 105, 110]⟩, .int .i64 3, .int .i64 3, .int .i64 5, .string ⟨#[114, 101, 116, 121, 112, 101]⟩, .int .i64 1, .int .i64 3, .int .i64 6, .string ⟨#[100, 114, 111, 112]⟩, .int .i64 1]
/-- the cells of the entries of list 5 of the table -/
def st5 : Array Value := #[.int .i64 4, .int .i64 1, .string ⟨#[108, 111, 97, 100]⟩, .int .i64 1, .int .i64 4, .int .i64 2, .string ⟨#[99, 111, 110, 115, 116]⟩, .int .i64 0, .int .i64 4, .int .i64 3, .string ⟨#[99, 111, 110, 118]⟩, .int .i64 2, .int .i64 4, .int .i64 4, .string ⟨#[104, 101, 97, 100]⟩, .int .i64 1, .int .i64 4, .int .i64 5, .string ⟨#[116, 97, 105, 108]⟩, .int .i64 1, .int .i64 4, .int .i64 6, .string ⟨#[106, 111, 105, 110]⟩, .int .i64 2]
/-- the cells of the entries of list 6 of the table -/
def st6 : Array Value := #[.int .i64 5, .int .i64 1, .string ⟨#[99, 111, 117, 110, 116]⟩, .int .i64 31, .int .i64 5, .int .i64 2, .string ⟨#[115, 117, 109]⟩, .int .i64 3, .int .i64 5, .int .i64 3, .string ⟨#[109, 105, 110]⟩, .int .i64 31, .int .i64 5, .int .i64 4, .string ⟨#[109, 97, 120]⟩, .int .i64 31, .int .i64 5, .int .i64 5, .string ⟨#[102, 105, 114, 115, 116]⟩, .int .i64 31, .int .i64 5, .int .i64 6, .string ⟨#[108, 97, 115, 116]⟩, .int .i64 31, .int .i64 5, .int .i64 7, .string ⟨#[100, 105, 115, 116, 105, 110, 99, 116]⟩, .int .i64 31]
/-- the cells of the whole table -/
def startL : List Value := st1.toList ++ st2.toList ++ st3.toList ++ st4.toList ++ st5.toList ++ st6.toList

theorem ones2 : ∀ u ∈ st2.toList, u.oneCell' = true := by decide
theorem ones3 : ∀ u ∈ st3.toList, u.oneCell' = true := by decide
theorem ones4 : ∀ u ∈ st4.toList, u.oneCell' = true := by decide
theorem ones5 : ∀ u ∈ st5.toList, u.oneCell' = true := by decide
theorem ones6 : ∀ u ∈ st6.toList, u.oneCell' = true := by decide
theorem entry_any (w : World) (f n : Int) (s : ByteArray) (z : Int) :
    Calls Tryd.prog 36 #[.int .i64 f, .int .i64 n, .string s, .int .i64 z] w fun e w' => e = .returned (.agg #[.int .i64 f, .int .i64 n, .string s, .int .i64 z]) ∧ Below w.heap.size w w' := by
  go_enter Tryd.func36, Tryd.ntmps36
  go_wp2
  exact bodyPost_ret (v := .agg #[.int .i64 f, .int .i64 n, .string s, .int .i64 z]) (by simp [results, Tryd.results36, go_sem]) rfl ⟨rfl, (Below.refl _ _).alloc (Nat.le_refl _) _⟩
theorem entry_own {w0 w : World} {v : Value} {n : Nat} {xs : List Value} (h : Own4 34 w0 w v n xs) (f m : Int) (s : ByteArray) (z : Int) :
    Calls Tryd.prog 36 #[.int .i64 f, .int .i64 m, .string s, .int .i64 z] w fun e w' => e = .returned (.agg #[.int .i64 f, .int .i64 m, .string s, .int .i64 z]) ∧ Own4 34 w0 w' v n xs :=
  (entry_any w f m s z).mono fun _ _ ⟨he, hb⟩ => ⟨he, h.then_ hb⟩

/-- the table in memory of the call's own -/
def StartIs (w : World) (e : Ending) (w' : World) : Prop := ∃ v, e = .returned v ∧ Own4 34 w w' v 36 startL

set_option maxRecDepth 100000 in
set_option maxHeartbeats 4000000 in
theorem start_any (w : World) : Calls Tryd.prog 18 #[] w (StartIs w) := by
  have h0 : Own4 34 w w (.slice none 0 0) 0 [] := Own4.nil _ w
  obtain ⟨ie, hie, hz, h4, h40⟩ := info_of (P := Tryd.prog) (T := 34) (z := .agg #[.int .i64 0, .int .i64 0, .string ⟨#[]⟩, .int .i64 0]) (by kernel_rfl)
  have HI := Lib.hid hie
  have HZ := Lib.hid hz
  have H4 := Lib.hid h4
  have H40 := Lib.hid h40
  clear hie hz h4 h40
  go_enter Tryd.func18, Tryd.ntmps18
  go_wp2_with (first
    | (go_at_call 36; refine (entry_own h0 _ _ _ _).mono ?_; clear h0; rintro e w' ⟨rfl, h0⟩)
    | (have hk : Own4 34 w _ _ (0) _ := h0; clear hk; refine wpList_list rfl 35 34 5 _ rfl st1 ie _ Tryd.underlying35 HI.out HZ.out H4.out (by decide) (by decide) ?_ ?_; kernel_rfl; have h1 := Own4.made (T := 34) h0.below st1 5 rfl (by decide); clear h0; have h0 := h1; clear h1)
    | (have hk : Own4 34 w _ _ (5) _ := h0; clear hk; refine wpList_list rfl 35 34 6 _ rfl st2 ie _ Tryd.underlying35 HI.out HZ.out H4.out (by decide) (by decide) ?_ ?_; kernel_rfl)
    | (at_builtin; have hk : Own4 34 w _ _ (5) _ := h0; clear hk; obtain ⟨v', w', hrun, h1⟩ := own4_append (P := Tryd.prog) h0 35 35 ie _ Tryd.underlying35 HI.out HZ.out H4.out H40.out rfl st2 6 rfl ones2 (by decide); refine wpList_append_run rfl _ _ 35 rfl rfl rfl hrun ?_; clear hrun h0; have h0 := h1; clear h1)
    | (have hk : Own4 34 w _ _ (5 + 6) _ := h0; clear hk; refine wpList_list rfl 35 34 6 _ rfl st3 ie _ Tryd.underlying35 HI.out HZ.out H4.out (by decide) (by decide) ?_ ?_; kernel_rfl)
    | (at_builtin; have hk : Own4 34 w _ _ (5 + 6) _ := h0; clear hk; obtain ⟨v', w', hrun, h1⟩ := own4_append (P := Tryd.prog) h0 35 35 ie _ Tryd.underlying35 HI.out HZ.out H4.out H40.out rfl st3 6 rfl ones3 (by decide); refine wpList_append_run rfl _ _ 35 rfl rfl rfl hrun ?_; clear hrun h0; have h0 := h1; clear h1)
    | (have hk : Own4 34 w _ _ (5 + 6 + 6) _ := h0; clear hk; refine wpList_list rfl 35 34 6 _ rfl st4 ie _ Tryd.underlying35 HI.out HZ.out H4.out (by decide) (by decide) ?_ ?_; kernel_rfl)
    | (at_builtin; have hk : Own4 34 w _ _ (5 + 6 + 6) _ := h0; clear hk; obtain ⟨v', w', hrun, h1⟩ := own4_append (P := Tryd.prog) h0 35 35 ie _ Tryd.underlying35 HI.out HZ.out H4.out H40.out rfl st4 6 rfl ones4 (by decide); refine wpList_append_run rfl _ _ 35 rfl rfl rfl hrun ?_; clear hrun h0; have h0 := h1; clear h1)
    | (have hk : Own4 34 w _ _ (5 + 6 + 6 + 6) _ := h0; clear hk; refine wpList_list rfl 35 34 6 _ rfl st5 ie _ Tryd.underlying35 HI.out HZ.out H4.out (by decide) (by decide) ?_ ?_; kernel_rfl)
    | (at_builtin; have hk : Own4 34 w _ _ (5 + 6 + 6 + 6) _ := h0; clear hk; obtain ⟨v', w', hrun, h1⟩ := own4_append (P := Tryd.prog) h0 35 35 ie _ Tryd.underlying35 HI.out HZ.out H4.out H40.out rfl st5 6 rfl ones5 (by decide); refine wpList_append_run rfl _ _ 35 rfl rfl rfl hrun ?_; clear hrun h0; have h0 := h1; clear h1)
    | (have hk : Own4 34 w _ _ (5 + 6 + 6 + 6 + 6) _ := h0; clear hk; refine wpList_list rfl 35 34 7 _ rfl st6 ie _ Tryd.underlying35 HI.out HZ.out H4.out (by decide) (by decide) ?_ ?_; kernel_rfl)
    | (at_builtin; have hk : Own4 34 w _ _ (5 + 6 + 6 + 6 + 6) _ := h0; clear hk; obtain ⟨v', w', hrun, h1⟩ := own4_append (P := Tryd.prog) h0 35 35 ie _ Tryd.underlying35 HI.out HZ.out H4.out H40.out rfl st6 7 rfl ones6 (by decide); refine wpList_append_run rfl _ _ 35 rfl rfl rfl hrun ?_; clear hrun h0; have h0 := h1; clear h1))
  go_ret
  exact ⟨_, rfl, h0⟩
end Go.Proofs.YtcodamhoanfanaaDoor
