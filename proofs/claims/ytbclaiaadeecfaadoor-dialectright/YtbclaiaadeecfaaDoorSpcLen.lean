/-
  What lengths answers.
-/
import Derived.Test.YtbclaiaadeecfaaDoorSpcKey
import Derived.Test.YtbclaiaadeecfaaDoorPfxTop
import Derived.Test.YtbclaiaadeecfaaDoorObjs
import Derived.Test.YtbclaiaadeecfaaDoorSpcOne
import Derived.BigQuiet
import Derived.Deep.RegionWith
namespace Go.Proofs.YtbclaiaadeecfaaDoor
open Go.RowKit

set_option maxHeartbeats 800000 in
theorem lengths_bad (n c f lo hi : Int) (w : World) (h : ¬ (1 ≤ lo ∧ lo ≤ hi ∧ hi ≤ 999)) :
    Calls Tryd.prog 27 #[.agg #[.int .i64 n, .int .i64 c, .int .i64 f, .int .i64 lo, .int .i64 hi]] w fun e w' => e = .returned (.bool false) ∧ Below w.heap.size w w' := by
  by_cases h1 : lo < 1
  · have t1 : decide (lo < 1) = true := by simpa using h1
    clear h h1
    go_enter Tryd.func27, Tryd.ntmps27
    go_wp2
    go_ret
    exact ⟨rfl, below_al _ _⟩
  have t1 : decide (lo < 1) = false := by simpa using h1
  by_cases h2 : hi < lo
  · have t2 : decide (hi < lo) = true := by simpa using h2
    clear h h1 h2
    go_enter Tryd.func27, Tryd.ntmps27
    go_wp2
    go_ret
    exact ⟨rfl, below_al _ _⟩
  have t2 : decide (hi < lo) = false := by simpa using h2
  have t3 : decide (999 < hi) = true := by simp; omega
  clear h h1 h2
  go_enter Tryd.func27, Tryd.ntmps27
  go_wp2
  go_ret
  exact ⟨rfl, below_al _ _⟩
set_option maxHeartbeats 800000 in
theorem lengths_one (n c lo hi : Int) (w : World) (h : 1 ≤ lo ∧ lo ≤ hi ∧ hi ≤ 999) :
    Calls Tryd.prog 27 #[.agg #[.int .i64 n, .int .i64 c, .int .i64 1, .int .i64 lo, .int .i64 hi]] w fun e w' => e = .returned (.bool (lo == hi)) ∧ Below w.heap.size w w' := by
  have t1 : decide (lo < 1) = false := by simp; omega
  have t2 : decide (hi < lo) = false := by simp; omega
  have t3 : decide (999 < hi) = false := by simp; omega
  clear h
  go_enter Tryd.func27, Tryd.ntmps27
  go_wp2
  go_ret
  exact ⟨rfl, below_al _ _⟩
set_option maxHeartbeats 800000 in
theorem lengths_two (n c lo hi : Int) (w : World) (h : 1 ≤ lo ∧ lo ≤ hi ∧ hi ≤ 999) :
    Calls Tryd.prog 27 #[.agg #[.int .i64 n, .int .i64 c, .int .i64 2, .int .i64 lo, .int .i64 hi]] w fun e w' => e = .returned (.bool (decide (hi ≤ 99))) ∧ Below w.heap.size w w' := by
  have t1 : decide (lo < 1) = false := by simp; omega
  have t2 : decide (hi < lo) = false := by simp; omega
  have t3 : decide (999 < hi) = false := by simp; omega
  have HC := Lib.hid ptop_two
  clear h
  go_enter Tryd.func27, Tryd.ntmps27
  go_wp2_with fail
  go_quiet ((go_at_call 30; exact Calls.quiet_of_same (HC.out _)))
  go_wp2
  go_ret
  exact ⟨rfl, hbt (below_al _ _) (below_drewN _ _)⟩
set_option maxHeartbeats 800000 in
theorem lengths_three (n c lo hi : Int) (w : World) (h : 1 ≤ lo ∧ lo ≤ hi ∧ hi ≤ 999) :
    Calls Tryd.prog 27 #[.agg #[.int .i64 n, .int .i64 c, .int .i64 3, .int .i64 lo, .int .i64 hi]] w fun e w' => e = .returned (.bool true) ∧ Below w.heap.size w w' := by
  have t1 : decide (lo < 1) = false := by simp; omega
  have t2 : decide (hi < lo) = false := by simp; omega
  have t3 : decide (999 < hi) = false := by simp; omega
  have t4 : decide (hi ≤ 999) = true := by simp; omega
  have HC := Lib.hid ptop_three
  clear h
  go_enter Tryd.func27, Tryd.ntmps27
  go_wp2_with fail
  go_quiet ((go_at_call 30; exact Calls.quiet_of_same (HC.out _)))
  go_wp2
  go_ret
  exact ⟨by first | rfl | (rw [← t4]; rfl), hbt (below_al _ _) (below_drewN _ _)⟩
theorem lengths_any (n c f lo hi : Int) (w : World) (hf : f = 1 ∨ f = 2 ∨ f = 3) :
    Calls Tryd.prog 27 #[.agg #[.int .i64 n, .int .i64 c, .int .i64 f, .int .i64 lo, .int .i64 hi]] w fun e w' => e = .returned (.bool (lenB f lo hi)) ∧ Below w.heap.size w w' := by
  by_cases h : 1 ≤ lo ∧ lo ≤ hi ∧ hi ≤ 999
  · rcases hf with rfl | rfl | rfl
    · rw [lenB_one h]; exact lengths_one n c lo hi w h
    · rw [lenB_two h]; exact lengths_two n c lo hi w h
    · rw [lenB_three h]; exact lengths_three n c lo hi w h
  · rw [lenB_bad h]; exact lengths_bad n c f lo hi w h

end Go.Proofs.YtbclaiaadeecfaaDoor
