/-
  What count, known, size, Most and the document's Width answer: for every style and form, in every world.
-/
import Derived.Test.YtafcdokgjkfikaaPfxMath
import Derived.Test.YtafcdokgjkfikaaBcdSmall
namespace Go.Proofs.Ytafcdokgjkfikaa
open Go.RowKit

theorem count_yes (f : Int) (hf : f = 2 ∨ f = 3) (w : World) : Calls Try.prog 16 #[.int .i64 f] w fun e w' => e = .returned (.int .i64 f) ∧ w = w' := by
  rcases hf with rfl | rfl
  · go_enter Try.func16, Try.ntmps16
    go_wp2
    go_ret
    exact ⟨rfl, rfl⟩
  · go_enter Try.func16, Try.ntmps16
    go_wp2
    go_ret
    exact ⟨rfl, rfl⟩
theorem count_no (f : Int) (hf : f ≠ 2 ∧ f ≠ 3) (w : World) : Calls Try.prog 16 #[.int .i64 f] w fun e w' => e = .returned (.int .i64 0) ∧ w = w' := by
  obtain ⟨h2, h3⟩ := hf
  go_enter Try.func16, Try.ntmps16
  go_wp2
  go_ret
  exact ⟨rfl, rfl⟩
theorem most_yes (f : Nat) (hf : f = 2 ∨ f = 3) (w : World) : Calls Try.prog 13 #[.int .i64 (f : Int)] w fun e w' => e = .returned (.int .i64 ((10 ^ f - 1 : Nat) : Int)) ∧ w = w' := by
  rcases hf with rfl | rfl
  · show Calls Try.prog 13 #[.int .i64 2] w _
    go_enter Try.func13, Try.ntmps13
    go_wp2
    go_ret
    exact ⟨rfl, rfl⟩
  · show Calls Try.prog 13 #[.int .i64 3] w _
    go_enter Try.func13, Try.ntmps13
    go_wp2
    go_ret
    exact ⟨rfl, rfl⟩
theorem most_no (f : Int) (hf : f ≠ 2 ∧ f ≠ 3) (w : World) : Calls Try.prog 13 #[.int .i64 f] w fun e w' => e = .returned (.int .i64 0) ∧ w = w' := by
  obtain ⟨h2, h3⟩ := hf
  go_enter Try.func13, Try.ntmps13
  go_wp2
  go_ret
  exact ⟨rfl, rfl⟩
theorem width_yes (f : Int) (hf : f = 2 ∨ f = 3) (w : World) : Calls Try.prog 18 #[.int .i64 f] w fun e w' => e = .returned (.int .i64 f) ∧ w = w' := by
  rcases hf with rfl | rfl
  · go_enter Try.func18, Try.ntmps18
    go_wp2
    go_ret
    exact ⟨rfl, rfl⟩
  · go_enter Try.func18, Try.ntmps18
    go_wp2
    go_ret
    exact ⟨rfl, rfl⟩
theorem width_no (f : Int) (hf : f ≠ 2 ∧ f ≠ 3) (w : World) : Calls Try.prog 18 #[.int .i64 f] w fun e w' => e = .returned (.int .i64 0) ∧ w = w' := by
  have h2 : (f == 2) = false := by simp; omega
  have h3 : (f == 3) = false := by simp; omega
  clear hf
  go_enter Try.func18, Try.ntmps18
  go_wp2
  go_ret
  exact ⟨rfl, rfl⟩

theorem pknown_yes (st f : Int) (hs : st = 1 ∨ st = 2) (hf : f = 2 ∨ f = 3) (w : World) : Calls Try.prog 14 #[.int .i64 st, .int .i64 f] w fun e w' => e = .returned (.bool true) ∧ w = w' := by
  have HC := Lib.hid (count_yes f hf)
  have h0 : decide ((0 : Int) < f) = true := by simp; omega
  clear hf
  rcases hs with rfl | rfl
  · go_enter Try.func14, Try.ntmps14
    go_wp2_with fail
    refine (HC.out _).mono ?_
    rintro e w1 ⟨rfl, rfl⟩
    go_wp2
    go_ret
    exact ⟨rfl, rfl⟩
  · go_enter Try.func14, Try.ntmps14
    go_wp2_with fail
    refine (HC.out _).mono ?_
    rintro e w1 ⟨rfl, rfl⟩
    go_wp2
    go_ret
    exact ⟨rfl, rfl⟩
theorem pknown_no (st f : Int) (h : (st ≠ 1 ∧ st ≠ 2) ∨ (f ≠ 2 ∧ f ≠ 3)) (w : World) : Calls Try.prog 14 #[.int .i64 st, .int .i64 f] w fun e w' => e = .returned (.bool false) ∧ w = w' := by
  by_cases hs : st = 1 ∨ st = 2
  · have HC := Lib.hid (count_no f (by omega))
    clear h
    rcases hs with rfl | rfl
    · go_enter Try.func14, Try.ntmps14
      go_wp2_with fail
      refine (HC.out _).mono ?_
      rintro e w1 ⟨rfl, rfl⟩
      go_wp2
      go_ret
      exact ⟨rfl, rfl⟩
    · go_enter Try.func14, Try.ntmps14
      go_wp2_with fail
      refine (HC.out _).mono ?_
      rintro e w1 ⟨rfl, rfl⟩
      go_wp2
      go_ret
      exact ⟨rfl, rfl⟩
  · have h1 : (st == 1) = false := by simp; omega
    have h2 : (st == 2) = false := by simp; omega
    clear h hs
    go_enter Try.func14, Try.ntmps14
    go_wp2
    go_ret
    exact ⟨rfl, rfl⟩

theorem psize_any (st f : Nat) (hs : st = 1 ∨ st = 2) (hf : f = 2 ∨ f = 3) (w : World) : Calls Try.prog 21 #[.int .i64 (st : Int), .int .i64 (f : Int)] w fun e w' => e = .returned (.int .i64 (psz st f : Int)) ∧ w = w' := by
  have HC := Lib.hid (count_yes (f : Int) (by omega))
  rcases hs with rfl | rfl
  · show Calls Try.prog 21 #[.int .i64 1, .int .i64 (f : Int)] w _
    rw [psz_one]
    clear hf
    go_enter Try.func21, Try.ntmps21
    go_wp2_with fail
    refine (HC.out _).mono ?_
    rintro e w1 ⟨rfl, rfl⟩
    go_wp2
    go_ret
    exact ⟨rfl, rfl⟩
  · show Calls Try.prog 21 #[.int .i64 2, .int .i64 (f : Int)] w _
    have HS := Lib.hid (fun W => size_nat f W (by omega))
    rw [psz_half hf] at HS
    rw [psz_two]
    clear hf
    generalize f - 1 = z at *
    go_enter Try.func21, Try.ntmps21
    go_wp2_with fail
    refine (HC.out _).mono ?_
    rintro e w1 ⟨rfl, rfl⟩
    go_wp2_with fail
    refine (HS.out _).mono ?_
    rintro e w1 ⟨rfl, rfl⟩
    go_wp2
    go_ret
    exact ⟨rfl, rfl⟩

end Go.Proofs.Ytafcdokgjkfikaa
