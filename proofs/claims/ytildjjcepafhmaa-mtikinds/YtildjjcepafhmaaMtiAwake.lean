/-
  The answers that the document fixes are given, in every world.
-/
import Derived.Test.YtildjjcepafhmaaMtiTurn
namespace Go.Proofs.Ytildjjcepafhmaa
open Go.RowKit

theorem mawk_resp1 (w : World) : Calls Try.prog 15 #[.string ⟨#[48, 50, 48, 48]⟩] w fun e w' => e = .returned (.tuple #[.string ⟨#[48, 50, 49, 48]⟩, .bool true]) ∧ Below w.heap.size w w' :=
  mresp_yes 48 50 48 48 w (by decide +kernel) (by decide +kernel) (by decide +kernel) (by decide +kernel)
theorem mawk_resp2 (w : World) : Calls Try.prog 15 #[.string ⟨#[49, 52, 50, 48]⟩] w fun e w' => e = .returned (.tuple #[.string ⟨#[49, 52, 51, 48]⟩, .bool true]) ∧ Below w.heap.size w w' :=
  mresp_yes 49 52 50 48 w (by decide +kernel) (by decide +kernel) (by decide +kernel) (by decide +kernel)
theorem mawk_with (w : World) : Calls Try.prog 13 #[.string ⟨#[48, 56, 48, 48]⟩, .int .i64 1] w fun e w' => e = .returned (.tuple #[.string ⟨#[49, 56, 48, 48]⟩, .bool true]) ∧ Below w.heap.size w w' :=
  mwith_yes 48 56 48 48 1 w (by decide +kernel) (by decide +kernel) (by decide +kernel) (by decide +kernel) (by decide +kernel)
theorem mawk_ver (w : World) : Calls Try.prog 8 #[.string ⟨#[49, 50, 48, 48]⟩] w fun e w' => e = .returned (.tuple #[.int .i64 1, .bool true]) ∧ Below w.heap.size w w' :=
  mver_yes 49 50 48 48 w (by decide +kernel) (by decide +kernel) (by decide +kernel) (by decide +kernel)
theorem mawk_req (w : World) : Calls Try.prog 11 #[.string ⟨#[48, 50, 49, 48]⟩] w fun e w' => e = .returned (.bool false) ∧ Below w.heap.size w w' := by
  have h := mreq_any ⟨#[48, 50, 49, 48]⟩ w
  rw [show askB (ByteArray.mk #[48, 50, 49, 48]).data.toList = false from by decide +kernel] at h
  exact h
theorem mawk_right1 (w : World) : Calls Try.prog 10 #[.string ⟨#[48, 50, 48, 48, 48]⟩] w fun e w' => e = .returned (.bool false) ∧ Below w.heap.size w w' := by
  have h := mright_any ⟨#[48, 50, 48, 48, 48]⟩ w
  rw [show mtiB (ByteArray.mk #[48, 50, 48, 48, 48]).data.toList = false from by decide +kernel] at h
  exact h
theorem mawk_right2 (w : World) : Calls Try.prog 10 #[.string ⟨#[57, 57, 57, 57]⟩] w fun e w' => e = .returned (.bool true) ∧ Below w.heap.size w w' := by
  have h := mright_any ⟨#[57, 57, 57, 57]⟩ w
  rw [show mtiB (ByteArray.mk #[57, 57, 57, 57]).data.toList = true from by decide +kernel] at h
  exact h

set_option maxHeartbeats 1000000 in
theorem mwake_any (w : World) : Calls Try.prog 7 #[] w fun e w' => e = .returned (.bool true) ∧ Below w.heap.size w w' := by
  go_enter Try.func7, Try.ntmps7
  go_wp2_with fail
  refine (mawk_resp1 _).mono ?_
  rintro e w1 ⟨rfl, hb1⟩
  go_wp2_with fail
  refine (mawk_resp2 _).mono ?_
  rintro e w2 ⟨rfl, hb2⟩
  go_wp2_with fail
  refine (mawk_with _).mono ?_
  rintro e w3 ⟨rfl, hb3⟩
  go_wp2_with fail
  refine (mawk_ver _).mono ?_
  rintro e w4 ⟨rfl, hb4⟩
  go_wp2_with fail
  refine (mawk_req _).mono ?_
  rintro e w5 ⟨rfl, hb5⟩
  go_wp2_with fail
  refine (mawk_right1 _).mono ?_
  rintro e w6 ⟨rfl, hb6⟩
  go_wp2_with fail
  refine (mawk_right2 _).mono ?_
  rintro e w7 ⟨rfl, hb7⟩
  go_wp2
  go_ret
  exact ⟨rfl, hbt (hbt (hbt (hbt (hbt (hbt hb1 hb2) hb3) hb4) hb5) hb6) hb7⟩

end Go.Proofs.Ytildjjcepafhmaa
