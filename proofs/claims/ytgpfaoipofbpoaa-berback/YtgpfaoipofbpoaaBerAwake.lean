/-
  The answers that the document fixes are given, in every world.
-/
import Derived.Test.YtgpfaoipofbpoaaBerPut
import Derived.Test.YtgpfaoipofbpoaaBerGet
namespace Go.Proofs.Ytgpfaoipofbpoaa
open Go.RowKit

theorem berawk_put (w : World) : Calls Try.prog 8 #[.int .i64 300] w fun e w' => e = .returned (.tuple #[.string ⟨#[130, 1, 44]⟩, .bool true]) ∧ Below w.heap.size w w' := by
  have h := berput_yes 300 w (by decide)
  rw [show berL 300 = [130, 1, 44] from by decide +kernel] at h
  exact h
theorem berawk_get1 (w : World) : Calls Try.prog 12 #[.string ⟨#[120, 129, 128]⟩, .int .i64 1] w fun e w' => e = .returned (.tuple #[.int .i64 128, .int .i64 3, .int .i64 0]) ∧ w = w' := by
  have h := berget_any 1 ⟨#[120, 129, 128]⟩ w (by decide) (by decide)
  rw [show berGet (ByteArray.mk #[120, 129, 128]).data.toList 1 = (128, 3, 0) from by decide +kernel] at h
  exact h
theorem berawk_get2 (w : World) : Calls Try.prog 12 #[.string ⟨#[129, 5]⟩, .int .i64 0] w fun e w' => e = .returned (.tuple #[.int .i64 0, .int .i64 0, .int .i64 14]) ∧ w = w' := by
  have h := berget_any 0 ⟨#[129, 5]⟩ w (by decide) (by decide)
  rw [show berGet (ByteArray.mk #[129, 5]).data.toList 0 = (0, 0, 14) from by decide +kernel] at h
  exact h
theorem berawk_no (w : World) : Calls Try.prog 8 #[.int .i64 65536] w fun e w' => e = .returned (.tuple #[.string ⟨#[]⟩, .bool false]) ∧ Below w.heap.size w w' := berput_no 65536 w (by decide)
theorem berawk_size1 (w : World) : Calls Try.prog 11 #[.int .i64 127] w fun e w' => e = .returned (.int .i64 1) ∧ w = w' := bersize_any 127 w (by decide)
theorem berawk_size2 (w : World) : Calls Try.prog 11 #[.int .i64 (-1)] w fun e w' => e = .returned (.int .i64 0) ∧ w = w' := bersize_far (-1) w (by decide)

set_option maxHeartbeats 1000000 in
theorem berawake_any (w : World) : Calls Try.prog 10 #[] w fun e w' => e = .returned (.bool true) ∧ Below w.heap.size w w' := by
  go_enter Try.func10, Try.ntmps10
  go_wp2_with fail
  refine (berawk_put _).mono ?_
  rintro e w1 ⟨rfl, hb1⟩
  go_wp2_with fail
  refine (berawk_get1 _).mono ?_
  rintro e w2 ⟨rfl, rfl⟩
  go_wp2_with fail
  refine (berawk_get2 _).mono ?_
  rintro e w2 ⟨rfl, rfl⟩
  go_wp2_with fail
  refine (berawk_no _).mono ?_
  rintro e w2 ⟨rfl, hb2⟩
  go_wp2_with fail
  refine (berawk_size1 _).mono ?_
  rintro e w3 ⟨rfl, rfl⟩
  go_wp2_with fail
  refine (berawk_size2 _).mono ?_
  rintro e w3 ⟨rfl, rfl⟩
  go_wp2
  go_ret
  exact ⟨rfl, hbt hb1 hb2⟩

end Go.Proofs.Ytgpfaoipofbpoaa
