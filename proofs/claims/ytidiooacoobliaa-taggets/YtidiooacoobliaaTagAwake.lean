/-
  The answers that the document fixes are given, in every world.
-/
import Derived.Test.YtidiooacoobliaaTagPut
import Derived.Test.YtidiooacoobliaaTagGet
namespace Go.Proofs.Ytidiooacoobliaa
open Go.RowKit

theorem tawk_put (w : World) : Calls Try.prog 8 #[.int .i64 40706] w fun e w' => e = .returned (.tuple #[.string ⟨#[159, 2]⟩, .bool true]) ∧ Below w.heap.size w w' := by
  have h := tput_yes 40706 w (by decide)
  rw [show tputL 40706 = [159, 2] from by decide +kernel] at h
  exact h
theorem tawk_get1 (w : World) : Calls Try.prog 13 #[.string ⟨#[120, 90]⟩, .int .i64 1] w fun e w' => e = .returned (.tuple #[.int .i64 90, .int .i64 2, .int .i64 0]) ∧ w = w' := by
  have h := tget_any 1 ⟨#[120, 90]⟩ w (by decide) (by decide)
  rw [show tget (ByteArray.mk #[120, 90]).data.toList 1 = (90, 2, 0) from by decide +kernel] at h
  exact h
theorem tawk_get2 (w : World) : Calls Try.prog 13 #[.string ⟨#[112]⟩, .int .i64 0] w fun e w' => e = .returned (.tuple #[.int .i64 0, .int .i64 0, .int .i64 13]) ∧ w = w' := by
  have h := tget_any 0 ⟨#[112]⟩ w (by decide) (by decide)
  rw [show tget (ByteArray.mk #[112]).data.toList 0 = (0, 0, 13) from by decide +kernel] at h
  exact h
theorem tawk_get3 (w : World) : Calls Try.prog 13 #[.string ⟨#[159, 128]⟩, .int .i64 0] w fun e w' => e = .returned (.tuple #[.int .i64 0, .int .i64 0, .int .i64 13]) ∧ w = w' := by
  have h := tget_any 0 ⟨#[159, 128]⟩ w (by decide) (by decide)
  rw [show tget (ByteArray.mk #[159, 128]).data.toList 0 = (0, 0, 13) from by decide +kernel] at h
  exact h
theorem tawk_get4 (w : World) : Calls Try.prog 13 #[.string ⟨#[159]⟩, .int .i64 0] w fun e w' => e = .returned (.tuple #[.int .i64 0, .int .i64 0, .int .i64 2]) ∧ w = w' := by
  have h := tget_any 0 ⟨#[159]⟩ w (by decide) (by decide)
  rw [show tget (ByteArray.mk #[159]).data.toList 0 = (0, 0, 2) from by decide +kernel] at h
  exact h
theorem tawk_right1 (w : World) : Calls Try.prog 10 #[.int .i64 24362] w fun e w' => e = .returned (.bool true) ∧ w = w' := by
  have h := right_any 24362 w
  rw [show tagB 24362 = true from by decide +kernel] at h
  exact h
theorem tawk_right2 (w : World) : Calls Try.prog 10 #[.int .i64 159] w fun e w' => e = .returned (.bool false) ∧ w = w' := by
  have h := right_any 159 w
  rw [show tagB 159 = false from by decide +kernel] at h
  exact h

set_option maxHeartbeats 1000000 in
theorem twake_any (w : World) : Calls Try.prog 9 #[] w fun e w' => e = .returned (.bool true) ∧ Below w.heap.size w w' := by
  go_enter Try.func9, Try.ntmps9
  go_wp2_with fail
  refine (tawk_put _).mono ?_
  rintro e w1 ⟨rfl, hb1⟩
  go_wp2_with fail
  refine (tawk_get1 _).mono ?_
  rintro e w2 ⟨rfl, rfl⟩
  go_wp2_with fail
  refine (tawk_get2 _).mono ?_
  rintro e w2 ⟨rfl, rfl⟩
  go_wp2_with fail
  refine (tawk_get3 _).mono ?_
  rintro e w2 ⟨rfl, rfl⟩
  go_wp2_with fail
  refine (tawk_get4 _).mono ?_
  rintro e w2 ⟨rfl, rfl⟩
  go_wp2_with fail
  refine (tawk_right1 _).mono ?_
  rintro e w2 ⟨rfl, rfl⟩
  go_wp2_with fail
  refine (tawk_right2 _).mono ?_
  rintro e w2 ⟨rfl, rfl⟩
  go_wp2
  go_ret
  exact ⟨rfl, hb1⟩

end Go.Proofs.Ytidiooacoobliaa
