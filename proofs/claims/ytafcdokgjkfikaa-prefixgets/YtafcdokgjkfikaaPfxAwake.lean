/-
  The answers that the document fixes are given, in every world.
-/
import Derived.Test.YtafcdokgjkfikaaPfxPut
import Derived.Test.YtafcdokgjkfikaaPfxGet
namespace Go.Proofs.Ytafcdokgjkfikaa
open Go.RowKit

theorem pawk_put1 (w : World) : Calls Try.prog 8 #[.int .i64 1, .int .i64 3, .int .i64 7] w fun e w' => e = .returned (.tuple #[.string ⟨#[48, 48, 55]⟩, .int .i64 0]) ∧ Below w.heap.size w w' := by
  have h := pput_ok 1 3 7 w (by decide) (by decide) (by decide)
  rw [show pputL 1 3 7 = [48, 48, 55] from by decide +kernel] at h
  exact h
theorem pawk_put2 (w : World) : Calls Try.prog 8 #[.int .i64 2, .int .i64 3, .int .i64 7] w fun e w' => e = .returned (.tuple #[.string ⟨#[0, 7]⟩, .int .i64 0]) ∧ Below w.heap.size w w' := by
  have h := pput_ok 2 3 7 w (by decide) (by decide) (by decide)
  rw [show pputL 2 3 7 = [0, 7] from by decide +kernel] at h
  exact h
theorem pawk_put3 (w : World) : Calls Try.prog 8 #[.int .i64 2, .int .i64 2, .int .i64 100] w fun e w' => e = .returned (.tuple #[.string ⟨#[]⟩, .int .i64 5]) ∧ Below w.heap.size w w' :=
  pput_range 2 2 100 w (by decide) (by decide) (by decide) (by decide)
theorem pawk_get1 (w : World) : Calls Try.prog 11 #[.int .i64 2, .int .i64 2, .string ⟨#[120, 66]⟩, .int .i64 1] w fun e w' => e = .returned (.tuple #[.int .i64 42, .int .i64 2, .int .i64 0]) ∧ Below w.heap.size w w' := by
  have h := pget_any 2 2 1 ⟨#[120, 66]⟩ w (by decide) (by decide) (by decide) (by decide)
  rw [show pget 2 2 (ByteArray.mk #[120, 66]).data.toList 1 = (42, 2, 0) from by decide +kernel] at h
  exact h
theorem pawk_get2 (w : World) : Calls Try.prog 11 #[.int .i64 2, .int .i64 3, .string ⟨#[16, 7]⟩, .int .i64 0] w fun e w' => e = .returned (.tuple #[.int .i64 0, .int .i64 0, .int .i64 3]) ∧ Below w.heap.size w w' := by
  have h := pget_any 2 3 0 ⟨#[16, 7]⟩ w (by decide) (by decide) (by decide) (by decide)
  rw [show pget 2 3 (ByteArray.mk #[16, 7]).data.toList 0 = (0, 0, 3) from by decide +kernel] at h
  exact h

set_option maxHeartbeats 1000000 in
theorem pwake_any (w : World) : Calls Try.prog 10 #[] w fun e w' => e = .returned (.bool true) ∧ Below w.heap.size w w' := by
  go_enter Try.func10, Try.ntmps10
  go_wp2_with fail
  refine (pawk_put1 _).mono ?_
  rintro e w1 ⟨rfl, hb1⟩
  go_wp2_with fail
  refine (pawk_put2 _).mono ?_
  rintro e w2 ⟨rfl, hb2⟩
  go_wp2_with fail
  refine (pawk_put3 _).mono ?_
  rintro e w3 ⟨rfl, hb3⟩
  go_wp2_with fail
  refine (pawk_get1 _).mono ?_
  rintro e w4 ⟨rfl, hb4⟩
  go_wp2_with fail
  refine (pawk_get2 _).mono ?_
  rintro e w5 ⟨rfl, hb5⟩
  go_wp2_with fail
  refine (most_yes 3 (by decide) _).mono ?_
  rintro e w6 ⟨rfl, rfl⟩
  go_wp2
  go_ret
  exact ⟨rfl, hbt (hbt (hbt (hbt hb1 hb2) hb3) hb4) hb5⟩

end Go.Proofs.Ytafcdokgjkfikaa
