/-
  What within answers: for every two numbers, in every world.
-/
import Derived.Test.YtildjjcepafhmaaDigAlls
namespace Go.Proofs.Ytildjjcepafhmaa
open Go.RowKit

def wB (n m : Int) : Bool := decide (1 ≤ n) && decide (n ≤ m)
theorem wB_yes {n m : Int} (h : 1 ≤ n) (h' : n ≤ m) : wB n m = true := by simp [wB, h, h']
theorem wB_no {n m : Int} (h : n < 1 ∨ m < n) : wB n m = false := by
  rcases h with h | h
  · simp [wB, show ¬ 1 ≤ n by omega]
  · simp [wB, show ¬ n ≤ m by omega]
set_option maxHeartbeats 400000 in
theorem within_yes (n m : Int) (w : World) (h : 1 ≤ n) (h' : n ≤ m) :
    Calls Try.prog 24 #[.int .i64 n, .int .i64 m] w fun e w' => e = .returned (.bool true) ∧ w = w' := by
  go_enter Try.func24, Try.ntmps24
  go_wp2
  go_ret
  exact ⟨by simp, rfl⟩
set_option maxHeartbeats 400000 in
theorem within_no (n m : Int) (w : World) (h : n < 1 ∨ m < n) :
    Calls Try.prog 24 #[.int .i64 n, .int .i64 m] w fun e w' => e = .returned (.bool false) ∧ w = w' := by
  by_cases h1 : n < 1
  · go_enter Try.func24, Try.ntmps24
    go_wp2
    go_ret
    exact ⟨rfl, rfl⟩
  · have h2 : m < n := by omega
    clear h
    go_enter Try.func24, Try.ntmps24
    go_wp2
    go_ret
    exact ⟨by simp [show ¬ n ≤ m by omega], rfl⟩

end Go.Proofs.Ytildjjcepafhmaa
