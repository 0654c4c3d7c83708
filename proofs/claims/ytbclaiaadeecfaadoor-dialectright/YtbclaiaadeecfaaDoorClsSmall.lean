/-
  What Known, kind and the document's Is answer: for every class and byte, in every world.
-/
import Derived.Test.YtbclaiaadeecfaaDoorClsMath
import Derived.WalkKit
import Derived.WalkSpells
import Derived.WalkLawsBesides
import Derived.Lib.Hide
namespace Go.Proofs.YtbclaiaadeecfaaDoor
open Go.RowKit

set_option maxHeartbeats 400000 in
theorem known_any (c : Int) (w : World) :
    Calls Tryd.prog 26 #[.int .i64 c] w fun e w' => e = .returned (.bool (isC c)) ∧ w = w' := by
  cases h : isC c
  · rw [isC_false] at h
    rcases h with h | h
    · go_enter Tryd.func26, Tryd.ntmps26
      go_wp2
      go_ret
      exact ⟨rfl, rfl⟩
    · go_enter Tryd.func26, Tryd.ntmps26
      go_wp2
      go_ret
      exact ⟨by simp [show ¬ c ≤ 6 by omega], rfl⟩
  · rw [isC_iff] at h
    obtain ⟨h1, h2⟩ := h
    go_enter Tryd.func26, Tryd.ntmps26
    go_wp2
    go_ret
    exact ⟨rfl, rfl⟩

theorem known_no {c : Int} (h : isC c = false) (w : World) : Calls Tryd.prog 26 #[.int .i64 c] w fun e w' => e = .returned (.bool false) ∧ w' = w := by
  refine (known_any c w).mono fun e w' ⟨he, hw⟩ => ?_
  rw [h] at he
  exact ⟨he, hw.symm⟩
theorem known_yes {c : Int} (h : isC c = true) (w : World) : Calls Tryd.prog 26 #[.int .i64 c] w fun e w' => e = .returned (.bool true) ∧ w' = w := by
  refine (known_any c w).mono fun e w' ⟨he, hw⟩ => ?_
  rw [h] at he
  exact ⟨he, hw.symm⟩


theorem isO_1 (n : Nat) : isO 1 n = decide (48 ≤ n ∧ n ≤ 57) := by
  rw [show isO 1 n = ((ks 1) &&& (kd n) != 0) from isO_at (k := 1) (by omega) (by omega) n]
  unfold kd
  repeat' split
  all_goals first | (simp [ks]; omega) | simp [ks, *]
theorem isO_2 (n : Nat) : isO 2 n = decide ((65 ≤ n ∧ n ≤ 90) ∨ (97 ≤ n ∧ n ≤ 122)) := by
  rw [show isO 2 n = ((ks 2) &&& (kd n) != 0) from isO_at (k := 2) (by omega) (by omega) n]
  unfold kd
  repeat' split
  all_goals first | (simp [ks]; omega) | simp [ks, *]
theorem isO_3 (n : Nat) : isO 3 n = decide ((48 ≤ n ∧ n ≤ 57) ∨ (65 ≤ n ∧ n ≤ 90) ∨ (97 ≤ n ∧ n ≤ 122)) := by
  rw [show isO 3 n = ((ks 3) &&& (kd n) != 0) from isO_at (k := 3) (by omega) (by omega) n]
  unfold kd
  repeat' split
  all_goals first | (simp [ks]; omega) | simp [ks, *]
theorem isO_4 (n : Nat) : isO 4 n = decide (32 ≤ n ∧ n ≤ 126) := by
  rw [show isO 4 n = ((ks 4) &&& (kd n) != 0) from isO_at (k := 4) (by omega) (by omega) n]
  unfold kd
  repeat' split
  all_goals first | (simp [ks]; omega) | simp [ks, *]
theorem isO_5 (n : Nat) : isO 5 n = true := by
  rw [show isO 5 n = ((ks 5) &&& (kd n) != 0) from isO_at (k := 5) (by omega) (by omega) n]
  rcases kd_cases n with h | h | h | h <;> rw [h] <;> rfl
theorem isO_6 (n : Nat) : isO 6 n = true := by
  rw [show isO 6 n = ((ks 6) &&& (kd n) != 0) from isO_at (k := 6) (by omega) (by omega) n]
  rcases kd_cases n with h | h | h | h <;> rw [h] <;> rfl
theorem isO_else {c : Int} (h1 : c ≠ 1) (h2 : c ≠ 2) (h3 : c ≠ 3) (h4 : c ≠ 4) (n : Nat) : isO c n = (c == 5 || c == 6) := by
  by_cases h5 : c = 5
  · subst h5; rw [isO_5]; rfl
  by_cases h6 : c = 6
  · subst h6; rw [isO_6]; rfl
  rw [isO_no (isC_false.2 (by omega))]
  simp [h5, h6]


end Go.Proofs.YtbclaiaadeecfaaDoor
