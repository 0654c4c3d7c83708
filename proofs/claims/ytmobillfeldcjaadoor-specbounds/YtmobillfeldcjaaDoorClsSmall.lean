/-
  What Known, kind and the document's Is answer: for every class and byte, in every world.
-/
import Derived.Test.YtmobillfeldcjaaDoorClsMath
import Derived.WalkKit
import Derived.WalkSpells
import Derived.WalkLawsBesides
import Derived.Lib.Hide
namespace Go.Proofs.YtmobillfeldcjaaDoor
open Go.RowKit

set_option maxHeartbeats 400000 in
theorem known_any (c : Int) (w : World) :
    Calls Tryd.prog 15 #[.int .i64 c] w fun e w' => e = .returned (.bool (isC c)) ∧ w = w' := by
  cases h : isC c
  · rw [isC_false] at h
    rcases h with h | h
    · go_enter Tryd.func15, Tryd.ntmps15
      go_wp2
      go_ret
      exact ⟨rfl, rfl⟩
    · go_enter Tryd.func15, Tryd.ntmps15
      go_wp2
      go_ret
      exact ⟨by simp [show ¬ c ≤ 6 by omega], rfl⟩
  · rw [isC_iff] at h
    obtain ⟨h1, h2⟩ := h
    go_enter Tryd.func15, Tryd.ntmps15
    go_wp2
    go_ret
    exact ⟨rfl, rfl⟩

set_option maxHeartbeats 800000 in
theorem kind_any (n : Nat) (w : World) :
    Calls Tryd.prog 31 #[.int .u8 (n : Int)] w fun e w' => e = .returned (.int .i64 (kd n : Int)) ∧ w = w' := by
  have hk : kd n = kd n := rfl
  conv at hk => rhs; unfold kd
  have HK := Lib.hid hk; clear hk
  go_enter Tryd.func31, Tryd.ntmps31
  go_wp2
  all_goals go_ret
  all_goals refine ⟨?_, rfl⟩
  all_goals
    have h := HK.out
    repeat' split at h
    all_goals first
      | (rw [h]; rfl)
      | (exfalso; omega)

theorem isO_1 (n : Nat) : isO 1 n = decide (48 ≤ n ∧ n ≤ 57) := by
  rw [show isO 1 n = ((ks 1) &&& (kd n) != 0) from isO_at (k := 1) (by omega) (by omega) n]
  unfold kd
  repeat' split
  all_goals first | (simp [ks]; omega) | simp [ks, *]
theorem isO_2 (n : Nat) : isO 2 n = decide ((65 ≤ n ∧ n ≤ 90) ∨ (97 ≤ n ∧ n ≤ 122)) := by
  rw [show isO 2 n = ((ks 2) &&& (kd n) != 0) from isO_at (k := 2) (by omega) (by omega) n]
  unfold kd
  repeat' split
  all_goals first | (simp [ks]; omega) | simp [ks, *]
theorem isO_3 (n : Nat) : isO 3 n = decide ((48 ≤ n ∧ n ≤ 57) ∨ (65 ≤ n ∧ n ≤ 90) ∨ (97 ≤ n ∧ n ≤ 122)) := by
  rw [show isO 3 n = ((ks 3) &&& (kd n) != 0) from isO_at (k := 3) (by omega) (by omega) n]
  unfold kd
  repeat' split
  all_goals first | (simp [ks]; omega) | simp [ks, *]
theorem isO_4 (n : Nat) : isO 4 n = decide (32 ≤ n ∧ n ≤ 126) := by
  rw [show isO 4 n = ((ks 4) &&& (kd n) != 0) from isO_at (k := 4) (by omega) (by omega) n]
  unfold kd
  repeat' split
  all_goals first | (simp [ks]; omega) | simp [ks, *]
theorem isO_5 (n : Nat) : isO 5 n = true := by
  rw [show isO 5 n = ((ks 5) &&& (kd n) != 0) from isO_at (k := 5) (by omega) (by omega) n]
  rcases kd_cases n with h | h | h | h <;> rw [h] <;> rfl
theorem isO_6 (n : Nat) : isO 6 n = true := by
  rw [show isO 6 n = ((ks 6) &&& (kd n) != 0) from isO_at (k := 6) (by omega) (by omega) n]
  rcases kd_cases n with h | h | h | h <;> rw [h] <;> rfl
theorem isO_else {c : Int} (h1 : c ≠ 1) (h2 : c ≠ 2) (h3 : c ≠ 3) (h4 : c ≠ 4) (n : Nat) : isO c n = (c == 5 || c == 6) := by
  by_cases h5 : c = 5
  · subst h5; rw [isO_5]; rfl
  by_cases h6 : c = 6
  · subst h6; rw [isO_6]; rfl
  rw [isO_no (isC_false.2 (by omega))]
  simp [h5, h6]

set_option maxHeartbeats 1600000 in
theorem refIs_any (c : Int) (n : Nat) (w : World) :
    Calls Tryd.prog 26 #[.int .i64 c, .int .u8 (n : Int)] w fun e w' => e = .returned (.bool (isO c n)) ∧ w = w' := by
  by_cases h1 : c = 1
  · subst h1
    have HK := Lib.hid (isO_1 n)
    go_enter Tryd.func26, Tryd.ntmps26
    go_wp2
    all_goals
      go_ret
      refine ⟨congrArg (fun b => Ending.returned (Value.bool b)) ?_, rfl⟩
      rw [HK.out, Bool.eq_iff_iff]
      simp
      omega
  by_cases h2 : c = 2
  · subst h2
    have HK := Lib.hid (isO_2 n)
    clear h1
    go_enter Tryd.func26, Tryd.ntmps26
    go_wp2
    all_goals
      go_ret
      refine ⟨congrArg (fun b => Ending.returned (Value.bool b)) ?_, rfl⟩
      rw [HK.out, Bool.eq_iff_iff]
      simp
      omega
  by_cases h3 : c = 3
  · subst h3
    have HK := Lib.hid (isO_3 n)
    clear h1 h2
    go_enter Tryd.func26, Tryd.ntmps26
    go_wp2
    all_goals
      go_ret
      refine ⟨congrArg (fun b => Ending.returned (Value.bool b)) ?_, rfl⟩
      rw [HK.out, Bool.eq_iff_iff]
      simp
      omega
  by_cases h4 : c = 4
  · subst h4
    have HK := Lib.hid (isO_4 n)
    clear h1 h2 h3
    go_enter Tryd.func26, Tryd.ntmps26
    go_wp2
    all_goals
      go_ret
      refine ⟨congrArg (fun b => Ending.returned (Value.bool b)) ?_, rfl⟩
      rw [HK.out, Bool.eq_iff_iff]
      simp
      omega
  have HK := Lib.hid (isO_else h1 h2 h3 h4 n)
  go_enter Tryd.func26, Tryd.ntmps26
  go_wp2
  all_goals
    go_ret
    refine ⟨congrArg (fun b => Ending.returned (Value.bool b)) ?_, rfl⟩
    first
      | exact (isO_5 n).symm
      | (rw [HK.out]; done)
      | (rw [HK.out]; simp [*]; done)

end Go.Proofs.YtmobillfeldcjaaDoor
