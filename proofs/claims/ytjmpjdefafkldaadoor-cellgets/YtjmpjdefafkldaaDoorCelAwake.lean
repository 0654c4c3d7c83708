/-
  The answers that the document fixes: in every world in which the table of kinds stands as the program's text lays it.
-/
import Derived.Test.YtjmpjdefafkldaaDoorCelPut
import Derived.Test.YtjmpjdefafkldaaDoorCelGet
import Derived.Test.YtjmpjdefafkldaaDoorPackSpc
namespace Go.Proofs.YtjmpjdefafkldaaDoor
open Go.RowKit

def ceA : ByteArray := ⟨#[52, 49, 49, 49]⟩
def ceB : ByteArray := ⟨#[10, 255]⟩
def ceC : ByteArray := ⟨#[122, 48, 65, 70, 70, 122]⟩
def ceD : ByteArray := ⟨#[32]⟩
theorem ca_put1 (w : World) (hw : Kinds w) : Calls Tryd.prog 9 #[.int .i64 1, .agg #[.int .i64 2, .int .i64 1, .int .i64 2, .int .i64 1, .int .i64 19], .string ceA] w fun e w' => e = .returned (.tuple #[.string ⟨#[48, 52, 52, 49, 49, 49]⟩, .int .i64 0]) ∧ Below w.heap.size w w' := by
  have := cput_ok 1 2 1 2 1 19 ceA w hw (by decide) (spv_ok (by decide +kernel) (by decide +kernel) (by decide +kernel) (by decide))
  rw [show cputL 1 1 2 ceA.data.toList = [48, 52, 52, 49, 49, 49] by decide +kernel] at this
  exact this
theorem ca_put2 (w : World) (hw : Kinds w) : Calls Tryd.prog 9 #[.int .i64 2, .agg #[.int .i64 2, .int .i64 1, .int .i64 2, .int .i64 1, .int .i64 19], .string ceA] w fun e w' => e = .returned (.tuple #[.string ⟨#[4, 65, 17]⟩, .int .i64 0]) ∧ Below w.heap.size w w' := by
  have := cput_ok 2 2 1 2 1 19 ceA w hw (by decide) (spv_ok (by decide +kernel) (by decide +kernel) (by decide +kernel) (by decide))
  rw [show cputL 2 1 2 ceA.data.toList = [4, 65, 17] by decide +kernel] at this
  exact this
theorem ca_put3 (w : World) (hw : Kinds w) : Calls Tryd.prog 9 #[.int .i64 1, .agg #[.int .i64 52, .int .i64 5, .int .i64 1, .int .i64 2, .int .i64 2], .string ceB] w fun e w' => e = .returned (.tuple #[.string ⟨#[48, 65, 70, 70]⟩, .int .i64 0]) ∧ Below w.heap.size w w' := by
  have := cput_ok 1 52 5 1 2 2 ceB w hw (by decide) (spv_ok (by decide +kernel) (by decide +kernel) (by decide +kernel) (by decide))
  rw [show cputL 1 5 1 ceB.data.toList = [48, 65, 70, 70] by decide +kernel] at this
  exact this
theorem ca_cget1 : cget 1 52 5 1 2 2 ceC 1 = (ceB, 5, 0) :=
  cget_ok (a := 2) (q := 1) (t := ceB) (by decide +kernel) (by decide +kernel) (by decide +kernel) (spv_ok (by decide +kernel) (by decide +kernel) (by decide +kernel) (by decide))
theorem ca_cget2 : cget 2 2 1 2 1 19 ceD 0 = (⟨#[]⟩, 0, 5) :=
  cget_len (a := 0) (q := 0) (x := 5) (by decide +kernel) (by decide)
theorem ca_get1 (w : World) (hw : Kinds w) : Calls Tryd.prog 11 #[.int .i64 1, .agg #[.int .i64 52, .int .i64 5, .int .i64 1, .int .i64 2, .int .i64 2], .string ceC, .int .i64 1] w fun e w' => e = .returned (.tuple #[.string ceB, .int .i64 5, .int .i64 0]) ∧ Below w.heap.size w w' := by
  have := cget_any 1 1 52 5 1 2 2 ceC w hw (by decide) (by decide +kernel) (by decide +kernel) (by decide +kernel)
  rw [ca_cget1] at this
  exact this
theorem ca_get2 (w : World) (hw : Kinds w) : Calls Tryd.prog 11 #[.int .i64 2, .agg #[.int .i64 2, .int .i64 1, .int .i64 2, .int .i64 1, .int .i64 19], .string ceD, .int .i64 0] w fun e w' => e = .returned (.tuple #[.string ⟨#[]⟩, .int .i64 0, .int .i64 5]) ∧ Below w.heap.size w w' := by
  have := cget_any 2 0 2 1 2 1 19 ceD w hw (by decide) (by decide +kernel) (by decide +kernel) (by decide +kernel)
  rw [ca_cget2] at this
  exact this

set_option maxHeartbeats 3200000 in
theorem cawake_any (w : World) (hw : Kinds w) : Calls Tryd.prog 8 #[] w fun e w' => e = .returned (.bool true) ∧ Below w.heap.size w w' := by
  have H1 := Lib.hid ca_put1
  have H2 := Lib.hid ca_put2
  have H3 := Lib.hid ca_put3
  have H4 := Lib.hid ca_get1
  have H5 := Lib.hid ca_get2
  have HW := Lib.hid hw
  unfold ceA at H1 H2
  unfold ceB at H3 H4
  unfold ceC at H4
  unfold ceD at H5
  have HS0 := Lib.hid (specs_new w 2 1 2 1 19 52 5 1 2 2)
  clear hw
  go_enter Tryd.func8, Tryd.ntmps8
  go_wp2_with fail
  refine (H1.out _ (HW.out.below HS0.out.1)).mono ?_
  rintro e w1 ⟨rfl, hb1⟩
  have HS1 := Lib.hid (HS0.out.below hb1)
  clear hb1
  obtain ⟨⟨c0, c1, c2, c3, c4⟩, d0, d1, d2, d3, d4⟩ := HS1.out.cells
  go_wp2_with fail
  refine (H2.out _ (HW.out.below HS1.out.1)).mono ?_
  rintro e w2 ⟨rfl, hb2⟩
  have HS2 := Lib.hid (HS1.out.below hb2)
  clear hb2 c0 c1 c2 c3 c4 d0 d1 d2 d3 d4
  obtain ⟨⟨c0, c1, c2, c3, c4⟩, d0, d1, d2, d3, d4⟩ := HS2.out.cells
  go_wp2_with fail
  refine (H3.out _ (HW.out.below HS2.out.1)).mono ?_
  rintro e w3 ⟨rfl, hb3⟩
  have HS3 := Lib.hid (HS2.out.below hb3)
  clear hb3 c0 c1 c2 c3 c4 d0 d1 d2 d3 d4
  obtain ⟨⟨c0, c1, c2, c3, c4⟩, d0, d1, d2, d3, d4⟩ := HS3.out.cells
  go_wp2_with fail
  refine (H4.out _ (HW.out.below HS3.out.1)).mono ?_
  rintro e w4 ⟨rfl, hb4⟩
  have HS4 := Lib.hid (HS3.out.below hb4)
  clear hb4 c0 c1 c2 c3 c4 d0 d1 d2 d3 d4
  obtain ⟨⟨c0, c1, c2, c3, c4⟩, d0, d1, d2, d3, d4⟩ := HS4.out.cells
  go_wp2_with fail
  refine (H5.out _ (HW.out.below HS4.out.1)).mono ?_
  rintro e w5 ⟨rfl, hb5⟩
  have HB5 := Lib.hid (HS4.out.below hb5).1
  clear hb5 c0 c1 c2 c3 c4 d0 d1 d2 d3 d4
  go_wp2
  go_ret
  exact ⟨rfl, HB5.out⟩

end Go.Proofs.YtjmpjdefafkldaaDoor
