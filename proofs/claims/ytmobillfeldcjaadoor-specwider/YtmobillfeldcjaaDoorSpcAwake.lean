/-
  The answers that the document fixes: in every world in which the table of kinds stands as the program's text lays it.
-/
import Derived.Test.YtmobillfeldcjaaDoorSpcValue
import Derived.Test.YtmobillfeldcjaaDoorSpcWide
namespace Go.Proofs.YtmobillfeldcjaaDoor
open Go.RowKit

def spA : ByteArray := ⟨#[52, 49, 49, 49, 49, 49, 49, 49, 49, 49, 49, 49, 49, 49, 49, 49]⟩
def spB : ByteArray := ⟨#[52, 49, 49, 97]⟩
theorem sa_check (w : World) : Calls Tryd.prog 9 #[.agg #[.int .i64 2, .int .i64 1, .int .i64 2, .int .i64 1, .int .i64 19]] w fun e w' => e = .returned (.int .i64 0) ∧ Below w.heap.size w w' := by
  have := spcheck_any 2 1 2 1 19 w
  rw [show spk 2 1 2 1 19 = 0 by decide +kernel] at this
  exact this
theorem sa_arg (w : World) : Calls Tryd.prog 9 #[.agg #[.int .i64 1, .int .i64 0, .int .i64 0, .int .i64 0, .int .i64 0]] w fun e w' => e = .returned (.int .i64 1) ∧ Below w.heap.size w w' := by
  have := spcheck_any 1 0 0 0 0 w
  rw [show spk 1 0 0 0 0 = 1 by decide +kernel] at this
  exact this
theorem sa_val (w : World) (hw : Kinds w) : Calls Tryd.prog 11 #[.agg #[.int .i64 2, .int .i64 1, .int .i64 2, .int .i64 1, .int .i64 19], .string spA] w fun e w' => e = .returned (.int .i64 0) ∧ Below w.heap.size w w' := by
  have := spvalue_any 2 1 2 1 19 spA w hw (by decide +kernel)
  rw [spv_ok (by decide +kernel) (by decide +kernel) (by decide +kernel) (by decide)] at this
  exact this
theorem sa_class (w : World) (hw : Kinds w) : Calls Tryd.prog 11 #[.agg #[.int .i64 2, .int .i64 1, .int .i64 2, .int .i64 1, .int .i64 19], .string spB] w fun e w' => e = .returned (.int .i64 6) ∧ Below w.heap.size w w' := by
  have := spvalue_any 2 1 2 1 19 spB w hw (by decide +kernel)
  rw [spv_class (by decide +kernel) (by decide +kernel) (by decide +kernel)] at this
  exact this
theorem sa_none (w : World) (hw : Kinds w) : Calls Tryd.prog 11 #[.agg #[.int .i64 2, .int .i64 1, .int .i64 2, .int .i64 1, .int .i64 19], .string ⟨#[]⟩] w fun e w' => e = .returned (.int .i64 5) ∧ Below w.heap.size w w' := by
  have := spvalue_any 2 1 2 1 19 ⟨#[]⟩ w hw (by decide +kernel)
  rw [spv_range (by decide +kernel) (by decide +kernel)] at this
  exact this
theorem sa_wider (w : World) (hw : Kinds w) : Calls Tryd.prog 13 #[.agg #[.int .i64 3, .int .i64 4, .int .i64 3, .int .i64 1, .int .i64 20], .agg #[.int .i64 2, .int .i64 1, .int .i64 2, .int .i64 1, .int .i64 19]] w fun e w' => e = .returned (.bool true) ∧ Below w.heap.size w w' := by
  have := spwider_any 3 4 3 1 20 2 1 2 1 19 w hw
  rw [show spw 3 4 3 1 20 2 1 2 1 19 = true by decide +kernel] at this
  exact this

set_option maxHeartbeats 3200000 in
theorem spawake_any (w : World) (hw : Kinds w) : Calls Tryd.prog 8 #[] w fun e w' => e = .returned (.bool true) ∧ Below w.heap.size w w' := by
  have H1 := Lib.hid sa_check
  have H2 := Lib.hid sa_val
  have H3 := Lib.hid sa_class
  have H4 := Lib.hid sa_none
  have H5 := Lib.hid sa_arg
  have H6 := Lib.hid sa_wider
  have HW := Lib.hid hw
  unfold spA at H2
  unfold spB at H3
  clear hw
  go_enter Tryd.func8, Tryd.ntmps8
  go_wp2_with fail
  refine (H1.out _).mono ?_
  rintro e w1 ⟨rfl, hb1⟩
  have HB1 := Lib.hid (hbt (below_al _ _) hb1)
  have HO1 := Lib.hid (spec_at hb1)
  obtain ⟨c0, c1, c2, c3, c4⟩ := obj_cells5 HO1.out
  clear hb1
  go_wp2_with fail
  refine (H2.out _ (HW.out.below HB1.out)).mono ?_
  rintro e w2 ⟨rfl, hb2⟩
  have HB2 := Lib.hid (hbt HB1.out hb2)
  have HO2 := Lib.hid (obj_below HO1.out hb2)
  clear hb2 c0 c1 c2 c3 c4
  obtain ⟨c0, c1, c2, c3, c4⟩ := obj_cells5 HO2.out
  go_wp2_with fail
  refine (H3.out _ (HW.out.below HB2.out)).mono ?_
  rintro e w3 ⟨rfl, hb3⟩
  have HB3 := Lib.hid (hbt HB2.out hb3)
  have HO3 := Lib.hid (obj_below HO2.out hb3)
  clear hb3 c0 c1 c2 c3 c4
  obtain ⟨c0, c1, c2, c3, c4⟩ := obj_cells5 HO3.out
  go_wp2_with fail
  refine (H4.out _ (HW.out.below HB3.out)).mono ?_
  rintro e w4 ⟨rfl, hb4⟩
  have HB4 := Lib.hid (hbt HB3.out hb4)
  have HO4 := Lib.hid (obj_below HO3.out hb4)
  clear hb4 c0 c1 c2 c3 c4
  go_wp2_with fail
  refine (H5.out _).mono ?_
  rintro e w5 ⟨rfl, hb5⟩
  have HB5 := Lib.hid (hbt HB4.out hb5)
  have HO5 := Lib.hid (obj_below HO4.out hb5)
  clear hb5
  obtain ⟨c0, c1, c2, c3, c4⟩ := obj_cells5 HO5.out
  go_wp2_with fail
  refine (H6.out _ (HW.out.below HB5.out)).mono ?_
  rintro e w6 ⟨rfl, hb6⟩
  have HB6 := Lib.hid (hbt HB5.out hb6)
  clear hb6 c0 c1 c2 c3 c4
  go_wp2
  go_ret
  exact ⟨rfl, HB6.out⟩

end Go.Proofs.YtmobillfeldcjaaDoor
